import Derived.Test.YtpedbdicjgdgkaaGreatZp12
import Derived.OrdersIn
import Derived.Scope
set_option linter.unusedVariables false
set_option linter.unusedSimpArgs false
/- The rest of the operations, turned and run, do what the program's do. No program here. -/
namespace Go.Proofs.YtpedbdicjgdgkaaGreat.Ev
open Go Go.RowKit

theorem map_list (ρ : Operand → Value) (a : Array Operand) : a.map ρ = ⟨a.toList.map ρ⟩ := by
  apply Array.ext'
  simp
theorem map_parts (ρ : Operand → Value) (a : Array (Nat × Operand)) : (a.map fun (p : Nat × Operand) => (p.1, ρ p.2)) = ⟨a.toList.map fun (p : Nat × Operand) => (p.1, ρ p.2)⟩ := by
  apply Array.ext'
  simp

section
variable {P : Program} {K : Kp} {B : Nat} {m : Mp} {s : St} {w : World} {T : BT Value} {ρ : Operand → Value} {k : Value → St → Bool} {dst : Option Tmp} {ty : TypeId} {pos : String} {af : Array Edge} {gd : Option (Nat × Bool)} {c : COp}

theorem oK_inv {x : Option Value} (h : oK s k x = true) : ∃ v, x = some v ∧ k v s = true := by
  cases x with
  | none => cases h
  | some v => exact ⟨v, rfl, by simpa [oK, optK, vK, forceV_eq] using h⟩

/-- What gives a value and a world, as the lemmas say it. -/
theorem OpDone.of {e : Sem Value} {op : Oper} (h : ∃ v s', k v s' = true ∧ ∃ m' w' u, e.run P w = .ok u w' ∧ m.le m' ∧ Emb P K B m' s' w' ∧ Below B w w' ∧ VR m' v u) (he : execOp ρ op = (do pure (.value (← e)))) : OpDone P K B m w k ((execOp ρ op).run P w) := by
  obtain ⟨v, s', hk, m', w', u, hr, hle, hE, hB, hv⟩ := h
  refine ⟨v, s', hk, m', w', .value u, ?_, trivial, hle, hE, hB, hv⟩
  rw [he, Sem.run_bind, hr]
  rfl
theorem OpDone.ofK (E : Emb P K B m s w) {e : Sem Value} {op : Oper} (h : ∃ v, k v s = true ∧ ∃ u, e.run P w = .ok u w ∧ VR m v u) (he : execOp ρ op = (do pure (.value (← e)))) : OpDone P K B m w k ((execOp ρ op).run P w) := by
  obtain ⟨v, hk, u, hr, hv⟩ := h
  exact OpDone.of ⟨v, s, hk, m, w, u, hr, Mp.le_refl m, E, Below.refl B w, hv⟩ he

theorem op_un {u : UnOp} {t : TypeId} {x : Operand} (hc : compOp P ⟨dst, .unOp u t x, ty, pos, af, gd⟩ = some c) (hρ : Hρ m T ρ (.unOp u t x)) (E : Emb P K B m s w) (hk : runOpK P T s c k = true) : OpDone P K B m w k ((execOp ρ ⟨dst, .unOp u t x, ty, pos, af, gd⟩).run P w) := by
  simp only [compOp] at hc
  obtain ⟨X, h1, rfl⟩ := Option.map_eq_some_iff.1 hc
  obtain ⟨v, hv, hk1⟩ := valK_inv (k := fun x => oK s k (ev1 P (Op.unary u) x)) hk
  obtain ⟨r, hr, hk2⟩ := oK_inv hk1
  obtain ⟨h2, h3⟩ := ev1_ok (w := w) (hρ x (by simp [Op.operands]) X v h1 hv) hr
  exact OpDone.ofK E ⟨r, hk2, r, h2, h3⟩ rfl
theorem op_conv {a b : TypeId} {x : Operand} (hc : compOp P ⟨dst, .convert a b x, ty, pos, af, gd⟩ = some c) (hρ : Hρ m T ρ (.convert a b x)) (E : Emb P K B m s w) (hk : runOpK P T s c k = true) : OpDone P K B m w k ((execOp ρ ⟨dst, .convert a b x, ty, pos, af, gd⟩).run P w) := by
  simp only [compOp] at hc
  obtain ⟨X, h1, rfl⟩ := Option.map_eq_some_iff.1 hc
  obtain ⟨v, hv, hk1⟩ := valK_inv (k := fun x => oK s k (ev1 P (convert a b) x)) hk
  obtain ⟨r, hr, hk2⟩ := oK_inv hk1
  obtain ⟨h2, h3⟩ := ev1_ok (w := w) (hρ x (by simp [Op.operands]) X v h1 hv) hr
  exact OpDone.ofK E ⟨r, hk2, r, h2, h3⟩ rfl
theorem op_mini {t : TypeId} {x : Operand} (hc : compOp P ⟨dst, .makeInterface t x, ty, pos, af, gd⟩ = some c) (hρ : Hρ m T ρ (.makeInterface t x)) (E : Emb P K B m s w) (hk : runOpK P T s c k = true) : OpDone P K B m w k ((execOp ρ ⟨dst, .makeInterface t x, ty, pos, af, gd⟩).run P w) := by
  simp only [compOp] at hc
  obtain ⟨X, h1, rfl⟩ := Option.map_eq_some_iff.1 hc
  obtain ⟨v, hv, hk1⟩ := valK_inv (k := fun x => oK s k (ev1 P (Instr.makeInterface t) x)) hk
  obtain ⟨r, hr, hk2⟩ := oK_inv hk1
  obtain ⟨h2, h3⟩ := ev1_ok (w := w) (hρ x (by simp [Op.operands]) X v h1 hv) hr
  exact OpDone.ofK E ⟨r, hk2, r, h2, h3⟩ rfl
theorem op_tas {a b : TypeId} {o : Bool} {x : Operand} (hc : compOp P ⟨dst, .typeAssert x a b o, ty, pos, af, gd⟩ = some c) (hρ : Hρ m T ρ (.typeAssert x a b o)) (E : Emb P K B m s w) (hk : runOpK P T s c k = true) : OpDone P K B m w k ((execOp ρ ⟨dst, .typeAssert x a b o, ty, pos, af, gd⟩).run P w) := by
  simp only [compOp] at hc
  obtain ⟨X, h1, rfl⟩ := Option.map_eq_some_iff.1 hc
  obtain ⟨v, hv, hk1⟩ := valK_inv (k := fun x => oK s k (ev1 P (fun v => Instr.typeAssert v a b o) x)) hk
  obtain ⟨r, hr, hk2⟩ := oK_inv hk1
  obtain ⟨h2, h3⟩ := ev1_ok (w := w) (hρ x (by simp [Op.operands]) X v h1 hv) hr
  exact OpDone.ofK E ⟨r, hk2, r, h2, h3⟩ rfl
theorem op_fn {f : FuncId} {p q : Array Operand} (hc : compOp P ⟨dst, .makeFunc (.func f) p q, ty, pos, af, gd⟩ = some c) (hρ : Hρ m T ρ (.makeFunc (.func f) p q)) (E : Emb P K B m s w) (hk : runOpK P T s c k = true) : OpDone P K B m w k ((execOp ρ ⟨dst, .makeFunc (.func f) p q, ty, pos, af, gd⟩).run P w) := by
  simp only [compOp] at hc
  split at hc
  · rename_i xs ys h1 h2
    cases hc
    obtain ⟨vs, hv, hk1⟩ := valsK_inv (k := fun p => valsK T ys (fun c => k (.func (.func f) ⟨p⟩ ⟨c⟩) s)) hk
    obtain ⟨us, hu, hk2⟩ := valsK_inv hk1
    have e1 := cxs_ok h1 hv (fun x hx X v => hρ x (by simp [Op.operands]; exact .inl (by simpa using hx)) X v)
    have e2 := cxs_ok h2 hu (fun x hx X v => hρ x (by simp [Op.operands]; exact .inr (by simpa using hx)) X v)
    refine OpDone.ofK E ⟨_, hk2, .func (.func f) (p.map ρ) (q.map ρ), rfl, ?_⟩ rfl
    rw [map_list, map_list]
    simp only [VR, AR]
    exact ⟨_, _, rfl, ⟨_, rfl, e1⟩, ⟨_, rfl, e2⟩⟩
  · cases hc
theorem op_mks {t : TypeId} {x y : Operand} (hc : compOp P ⟨dst, .makeSlice t x y, ty, pos, af, gd⟩ = some c) (hρ : Hρ m T ρ (.makeSlice t x y)) (E : Emb P K B m s w) (hk : runOpK P T s c k = true) : OpDone P K B m w k ((execOp ρ ⟨dst, .makeSlice t x y, ty, pos, af, gd⟩).run P w) := by
  simp only [compOp] at hc
  split at hc
  · rename_i e X Y h1 h2 h3
    split at hc
    · rename_i i z h4 h5
      obtain ⟨h6, hc⟩ := sel_inv hc
      cases hc
      obtain ⟨vx, hx, hk1⟩ := valK_inv (k := fun l => valK T Y (fun c => mksK s e i.size i.bytes z.toList l c k)) hk
      obtain ⟨vy, hy, hk2⟩ := valK_inv hk1
      exact OpDone.of (mks_ok h1 h4 h5 (by simpa using h6) E (hρ x (by simp [Op.operands]) X vx h2 hx) (hρ y (by simp [Op.operands]) Y vy h3 hy) hk2) rfl
    · cases hc
  · cases hc
theorem op_fa {t : TypeId} {x : Operand} {f : Nat} (hc : compOp P ⟨dst, .fieldAddr t x f, ty, pos, af, gd⟩ = some c) (hρ : Hρ m T ρ (.fieldAddr t x f)) (E : Emb P K B m s w) (hk : runOpK P T s c k = true) : OpDone P K B m w k ((execOp ρ ⟨dst, .fieldAddr t x f, ty, pos, af, gd⟩).run P w) := by
  simp only [compOp] at hc
  split at hc
  · rename_i fs X h1 h2
    split at hc
    · rename_i fd h3
      split at hc
      · rename_i i h4
        cases h0 : Nat.beq i.size 0 with
        | true => rw [h0] at hc; cases hc
        | false =>
          rw [h0] at hc
          cases hc
          obtain ⟨vx, hx, hk1⟩ := valK_inv (k := fun x => faK x fd.offset (vK s k)) hk
          have h0' : i.size ≠ 0 := by
            intro e
            rw [e] at h0
            cases h0
          exact OpDone.ofK E (fa_ok (w := w) h1 h3 h4 h0' (hρ x (by simp [Op.operands]) X vx h2 hx) hk1) rfl
      · cases hc
    · cases hc
  · cases hc
theorem op_fld {t : TypeId} {x : Operand} {f : Nat} (hc : compOp P ⟨dst, .field t x f, ty, pos, af, gd⟩ = some c) (hρ : Hρ m T ρ (.field t x f)) (E : Emb P K B m s w) (hk : runOpK P T s c k = true) : OpDone P K B m w k ((execOp ρ ⟨dst, .field t x f, ty, pos, af, gd⟩).run P w) := by
  simp only [compOp] at hc
  split at hc
  · rename_i fs X h1 h2
    split at hc
    · rename_i fd h3
      obtain ⟨n, h4, rfl⟩ := Option.map_eq_some_iff.1 hc
      obtain ⟨vx, hx, hk1⟩ := valK_inv (k := fun x => onAgg x (fun l => partK l fd.offset n (vK s k))) hk
      exact OpDone.ofK E (fld_ok (w := w) h1 h3 h4 (hρ x (by simp [Op.operands]) X vx h2 hx) hk1) rfl
    · cases hc
  · cases hc
theorem op_ia {t : TypeId} {x y : Operand} (hc : compOp P ⟨dst, .indexAddr t x y, ty, pos, af, gd⟩ = some c) (hρ : Hρ m T ρ (.indexAddr t x y)) (E : Emb P K B m s w) (hk : runOpK P T s c k = true) : OpDone P K B m w k ((execOp ρ ⟨dst, .indexAddr t x y, ty, pos, af, gd⟩).run P w) := by
  simp only [compOp] at hc
  split at hc
  · rename_i e X Y h1 h2 h3
    obtain ⟨i, h4, rfl⟩ := Option.map_eq_some_iff.1 hc
    obtain ⟨vx, hx, hk1⟩ := valK_inv (k := fun x => valK T Y (fun j => iaK x j i.size (vK s k))) hk
    obtain ⟨vy, hy, hk2⟩ := valK_inv hk1
    exact OpDone.ofK E (ia_ok (w := w) h1 h4 (hρ x (by simp [Op.operands]) X vx h2 hx) (hρ y (by simp [Op.operands]) Y vy h3 hy) hk2) rfl
  · rename_i n e X Y h1 h2 h3
    obtain ⟨i, h4, rfl⟩ := Option.map_eq_some_iff.1 hc
    obtain ⟨vx, hx, hk1⟩ := valK_inv (k := fun x => valK T Y (fun j => iaaK x j n i.size (vK s k))) hk
    obtain ⟨vy, hy, hk2⟩ := valK_inv hk1
    exact OpDone.ofK E (iaa_ok (w := w) h1 h4 (hρ x (by simp [Op.operands]) X vx h2 hx) (hρ y (by simp [Op.operands]) Y vy h3 hy) hk2) rfl
  · cases hc
theorem op_ix {t : TypeId} {x y : Operand} (hc : compOp P ⟨dst, .index t x y, ty, pos, af, gd⟩ = some c) (hρ : Hρ m T ρ (.index t x y)) (E : Emb P K B m s w) (hk : runOpK P T s c k = true) : OpDone P K B m w k ((execOp ρ ⟨dst, .index t x y, ty, pos, af, gd⟩).run P w) := by
  simp only [compOp] at hc
  split at hc
  · rename_i n e X Y h1 h2 h3
    split at hc
    · rename_i i q h4 h5
      cases hc
      obtain ⟨vx, hx, hk1⟩ := valK_inv (k := fun x => valK T Y (fun j => ixK x j n i.size q (vK s k))) hk
      obtain ⟨vy, hy, hk2⟩ := valK_inv hk1
      exact OpDone.ofK E (ix_ok (w := w) h1 h4 h5 (hρ x (by simp [Op.operands]) X vx h2 hx) (hρ y (by simp [Op.operands]) Y vy h3 hy) hk2) rfl
    · cases hc
  · rename_i X Y h1 h2 h3
    cases hc
    obtain ⟨vx, hx, hk1⟩ := valK_inv (k := fun x => valK T Y (fun i => oK s k (evIxs P t x i))) hk
    obtain ⟨vy, hy, hk2⟩ := valK_inv hk1
    obtain ⟨r, hr, hk3⟩ := oK_inv hk2
    unfold evIxs at hr
    obtain ⟨hf, hr⟩ := sel_inv hr
    simp only [Bool.and_eq_true] at hf
    obtain ⟨h4, h5⟩ := flatR_inv hr
    have ex := VR.same vx hf.1 (hρ x (by simp [Op.operands]) X vx h2 hx)
    have ey := VR.same vy hf.2 (hρ y (by simp [Op.operands]) Y vy h3 hy)
    refine OpDone.ofK E ⟨r, hk3, r, ?_, VR.flat r h5⟩ (e := Instr.index t (ρ x) (ρ y)) rfl
    rw [ex, ey]
    exact pureVal_run h4 w
  · cases hc
theorem op_ext {x : Operand} {i : Nat} (hc : compOp P ⟨dst, .extract x i, ty, pos, af, gd⟩ = some c) (hρ : Hρ m T ρ (.extract x i)) (E : Emb P K B m s w) (hk : runOpK P T s c k = true) : OpDone P K B m w k ((execOp ρ ⟨dst, .extract x i, ty, pos, af, gd⟩).run P w) := by
  simp only [compOp] at hc
  obtain ⟨X, h1, rfl⟩ := Option.map_eq_some_iff.1 hc
  obtain ⟨v, hv, hk1⟩ := valK_inv (k := fun x => onTuple x (fun l => nthK l i (vK s k))) hk
  exact OpDone.ofK E (ext_ok (w := w) (hρ x (by simp [Op.operands]) X v h1 hv) hk1) rfl
theorem opt_mem {lo : Option Operand} {x : Operand} : lo = some x → x ∈ lo.toArray := by rintro rfl; simp
theorem sliceAt_run {t : TypeId} {d : TypeDesc} {u : Value} {lo hi mx : Option Value} (ht : P.underlying t = some d) (hd : ∀ n e, d ≠ .array n e) : (Instr.sliceAt t u lo hi mx).run P w = (Instr.slice t u lo hi mx).run P w := by
  unfold Instr.sliceAt
  cases d with
  | array n e => exact absurd rfl (hd _ _)
  | _ => simp only [Sem.run_bind, run_und ht, Result.andThen_ok]
theorem VO.flat_same {v u : Option Value} (h : VO m v u) (hf : flatO v = true) : u = v := by
  cases v with
  | none => simpa only [VO] using h
  | some v =>
    simp only [VO] at h
    obtain ⟨u', rfl, h⟩ := h
    rw [VR.same v hf h]
theorem op_slc {t : TypeId} {x : Operand} {lo hi mx : Option Operand} (hc : compOp P ⟨dst, .slice t x lo hi mx, ty, pos, af, gd⟩ = some c) (hρ : Hρ m T ρ (.slice t x lo hi mx)) (E : Emb P K B m s w) (hk : runOpK P T s c k = true) : OpDone P K B m w k ((execOp ρ ⟨dst, .slice t x lo hi mx, ty, pos, af, gd⟩).run P w) := by
  have q0 : ∀ X v, cx x = some X → XV T X v → VR m v (ρ x) := fun X v => hρ x (by simp [Op.operands]) X v
  have q1 : ∀ y, lo = some y → ∀ X v, cx y = some X → XV T X v → VR m v (ρ y) := fun y h X v => hρ y (by subst h; simp [Op.operands]) X v
  have q2 : ∀ y, hi = some y → ∀ X v, cx y = some X → XV T X v → VR m v (ρ y) := fun y h X v => hρ y (by subst h; simp [Op.operands]) X v
  have q3 : ∀ y, mx = some y → ∀ X v, cx y = some X → XV T X v → VR m v (ρ y) := fun y h X v => hρ y (by subst h; simp [Op.operands]) X v
  simp only [compOp] at hc
  split at hc
  · rename_i e X lo' hi' mx' h1 h2 h3 h4 h5
    split at hc
    · rename_i i h6
      obtain ⟨h7, hc⟩ := sel_inv hc
      cases hc
      obtain ⟨vx, hx, hk1⟩ := valK_inv (k := fun x => valOK T lo' (fun lo => valOK T hi' (fun hi => valOK T mx' (fun mx => slcK s e i.size x lo hi mx (vK s k))))) hk
      obtain ⟨vl, hl, hk2⟩ := valOK_inv hk1
      obtain ⟨vh, hh, hk3⟩ := valOK_inv hk2
      obtain ⟨vm, hm, hk4⟩ := valOK_inv hk3
      unfold slcK at hk4
      obtain ⟨r, hr, hk5⟩ := optK_inv hk4
      rw [forceV_eq] at hk5
      have hx' : vm.isNone = true ∨ vh.isSome = true := by
        rcases (by simpa using h7 : mx' = none ∨ hi'.isSome = true) with h | h
        · subst h
          simp only [XO] at hm
          subst hm
          exact .inl rfl
        · obtain ⟨Y, rfl⟩ := Option.isSome_iff_exists.1 h
          simp only [XO] at hh
          obtain ⟨v, rfl, _⟩ := hh
          exact .inr rfl
      obtain ⟨r', hr', hv⟩ := slc_ok h1 h6 hx' E (q0 X vx h2 hx) (cxo_ok h3 hl q1) (cxo_ok h4 hh q2) (cxo_ok h5 hm q3) hr
      exact OpDone.ofK E ⟨r, hk5, r', by rw [sliceAt_run h1 (by simp)]; exact hr', hv⟩ (e := Instr.sliceAt t (ρ x) (lo.map ρ) (hi.map ρ) (mx.map ρ)) rfl
    · cases hc
  · rename_i X lo' hi' mx' h1 h2 h3 h4 h5
    cases hc
    obtain ⟨vx, hx, hk1⟩ := valK_inv (k := fun x => valOK T lo' (fun lo => valOK T hi' (fun hi => valOK T mx' (fun mx => oK s k (evSlcn P t x lo hi mx))))) hk
    obtain ⟨vl, hl, hk2⟩ := valOK_inv hk1
    obtain ⟨vh, hh, hk3⟩ := valOK_inv hk2
    obtain ⟨vm, hm, hk4⟩ := valOK_inv hk3
    obtain ⟨r, hr, hk5⟩ := oK_inv hk4
    unfold evSlcn at hr
    obtain ⟨hf, hr⟩ := sel_inv hr
    simp only [Bool.and_eq_true] at hf
    obtain ⟨h6, h7⟩ := flatR_inv hr
    have e0 := VR.same vx hf.1.1.1 (q0 X vx h2 hx)
    have e1 := VO.flat_same (cxo_ok h3 hl q1) hf.1.1.2
    have e2 := VO.flat_same (cxo_ok h4 hh q2) hf.1.2
    have e3 := VO.flat_same (cxo_ok h5 hm q3) hf.2
    refine OpDone.ofK E ⟨r, hk5, r, ?_, VR.flat r h7⟩ (e := Instr.sliceAt t (ρ x) (lo.map ρ) (hi.map ρ) (mx.map ρ)) rfl
    rw [sliceAt_run h1 (by simp), e0, e1, e2, e3]
    exact pureVal_run h6 w
  · cases hc

theorem parts_ok {T : BT Value} {ps : Array (Nat × Operand)} {place : Nat → Option (Nat × Nat)} {xs : List (Nat × Nat × X)} {vs : List (Nat × Nat × Value)} (hc : cparts place ps.toList = some xs) (hx : XPs T xs vs) (hρ : ∀ x ∈ (ps.toList.map (·.2)).toArray, ∀ X v, cx x = some X → XV T X v → VR m v (ρ x)) : PR m place vs (ps.toList.map fun (p : Nat × Operand) => (p.1, ρ p.2)) :=
  PR_of hc hx (fun p hp x v h => hρ p.2 (by simp; exact ⟨p.1, by simpa using hp⟩) x v h)
theorem op_lit {t : TypeId} {n : Nat} {ps : Array (Nat × Operand)} (hc : compOp P ⟨dst, .buildSlice t n ps, ty, pos, af, gd⟩ = some c) (hρ : Hρ m T ρ (.buildSlice t n ps)) (E : Emb P K B m s w) (hk : runOpK P T s c k = true) : OpDone P K B m w k ((execOp ρ ⟨dst, .buildSlice t n ps, ty, pos, af, gd⟩).run P w) := by
  simp only [compOp] at hc
  split at hc
  · rename_i e h1
    split at hc
    · rename_i i z h2 h3
      split at hc
      · rename_i xs h4
        obtain ⟨h5, hc⟩ := sel_inv hc
        cases hc
        simp only [Bool.and_eq_true, Nat.ble_eq] at h5
        obtain ⟨⟨⟨h5, h6⟩, h7⟩, h8⟩ := h5
        obtain ⟨vs, hv, hk1⟩ := partsK_inv (k := fun ps => litK s e n (n * i.size) (repeatN z.toList n) ps k) hk
        have := lit_ok h1 h2 h3 (by simpa using h6) h7 h8 E (parts_ok h4 hv hρ) (inN_of h5 hv) hk1
        refine OpDone.of this ?_
        show _ = (do pure (Next.value (← Instr.buildSlice t n ⟨ps.toList.map fun (p : Nat × Operand) => (p.1, ρ p.2)⟩)))
        rw [← map_parts]
        rfl
      · cases hc
    · cases hc
  · cases hc
theorem op_build {t : TypeId} {ps : Array (Nat × Operand)} (hc : compOp P ⟨dst, .build t ps, ty, pos, af, gd⟩ = some c) (hρ : Hρ m T ρ (.build t ps)) (E : Emb P K B m s w) (hk : runOpK P T s c k = true) : OpDone P K B m w k ((execOp ρ ⟨dst, .build t ps, ty, pos, af, gd⟩).run P w) := by
  have he : execOp ρ ⟨dst, .build t ps, ty, pos, af, gd⟩ = (do pure (Next.value (← Instr.build t ⟨ps.toList.map fun (p : Nat × Operand) => (p.1, ρ p.2)⟩))) := by
    rw [← map_parts]
    rfl
  have hz0 : ∀ {z}, zeroOf P t = some z → ∃ v, (zeroValue t).run P w = .ok v w ∧ v.cells = z := by
    intro z hz
    obtain ⟨i, v, hi, hv, hvz, _, _⟩ := zeroOf_inv hz
    exact ⟨v, by simp [zeroValue, run_typeInfo hi, hv], hvz⟩
  simp only [compOp] at hc
  split at hc
  · rename_i z fs h1 h2
    split at hc
    · rename_i xs h4
      obtain ⟨h5, hc⟩ := sel_inv hc
      cases hc
      simp only [Bool.and_eq_true, List.all_eq_true] at h5
      obtain ⟨vs, hv, hk1⟩ := partsK_inv (k := fun ps => buildK z.toList ps (vK s k)) hk
      refine OpDone.ofK E (build_ok (w := w) h1 (fun cs hf => ?_) (parts_ok h4 hv hρ) (inN_of h5.1 hv) hk1) he
      obtain ⟨v, hz, hvz⟩ := hz0 h1
      unfold Instr.build
      rw [Sem.run_bind, hz]
      simp only [Result.andThen_ok]
      rw [Sem.run_bind, run_und h2]
      simp only [Result.andThen_ok]
      rw [Sem.run_bind, fields_run w fs h5.2]
      simp only [Result.andThen_ok]
      rw [place_eq h5.2, hvz, hf]
      rfl
    · cases hc
  · rename_i z n e h1 h2
    split at hc
    · rename_i i h3
      split at hc
      · rename_i xs h4
        obtain ⟨h5, hc⟩ := sel_inv hc
        cases hc
        obtain ⟨vs, hv, hk1⟩ := partsK_inv (k := fun ps => buildK z.toList ps (vK s k)) hk
        refine OpDone.ofK E (build_ok (w := w) h1 (fun cs hf => ?_) (parts_ok h4 hv hρ) (inN_of h5 hv) hk1) he
        obtain ⟨v, hz, hvz⟩ := hz0 h1
        unfold Instr.build
        rw [Sem.run_bind, hz]
        simp only [Result.andThen_ok]
        rw [Sem.run_bind, run_und h2]
        simp only [Result.andThen_ok]
        rw [Sem.run_bind, run_sizeOf h3]
        simp only [Result.andThen_ok]
        rw [hvz, hf]
        rfl
      · cases hc
    · cases hc
  · cases hc
end
end Go.Proofs.YtpedbdicjgdgkaaGreat.Ev

/- The builtins, turned and run, do what the program's do. No program here. -/
namespace Go.Proofs.YtpedbdicjgdgkaaGreat.Ev
open Go Go.RowKit

section
variable {P : Program} {K : Kp} {B : Nat} {m : Mp} {s : St} {w : World} {T : BT Value} {ρ : Operand → Value} {k : Value → St → Bool} {dst : Option Tmp} {ty : TypeId} {pos : String} {af : Array Edge} {gd : Option (Nat × Bool)} {c : COp}

theorem exec_bi (b : Builtin) (args : Array Operand) (ts : Array TypeId) : ∃ cs, execOp ρ ⟨dst, .call ⟨.builtin b, args, ts⟩, ty, pos, af, gd⟩ = builtin b ts ty cs ⟨args.toList.map ρ⟩ :=
  ⟨args.map fun | .const _ => true | _ => false, by rw [← map_list]; rfl⟩
theorem get0 {ts : Array TypeId} {d : TypeDesc} {j : Nat} (h : (ts[j]?).bind P.underlying = some d) : ∃ t0, ts[j]? = some t0 ∧ P.underlying t0 = some d := by
  cases h0 : ts[j]? with
  | none => rw [h0] at h; cases h
  | some t0 => rw [h0] at h; exact ⟨t0, rfl, h⟩
theorem bi_done (E : Emb P K B m s w) {b : Builtin} {args : Array Operand} {ts : Array TypeId} {xs : List X} (hb : ∀ cs l, builtin b ts ty cs l = builtin b ts ty #[] l) (hxs : cxs args.toList = some xs) (hρ : Hρ m T ρ (.call ⟨.builtin b, args, ts⟩))
    (hk : valsK T xs (fun l => oK s k (evBi P b ts ty l)) = true) : OpDone P K B m w k ((execOp ρ ⟨dst, .call ⟨.builtin b, args, ts⟩, ty, pos, af, gd⟩).run P w) := by
  obtain ⟨vs, hv, hk1⟩ := valsK_inv hk
  obtain ⟨r, hr, hk2⟩ := oK_inv hk1
  unfold evBi at hr
  obtain ⟨hf, hr⟩ := sel_inv hr
  obtain ⟨h1, h2⟩ := flatR_inv hr
  have e1 := LR.same vs hf (cxs_ok hxs hv (fun x hx X v => hρ x (by simp only [Op.operands, Call.operands]; simpa using hx) X v))
  obtain ⟨cs, e2⟩ := exec_bi (ρ := ρ) (dst := dst) (ty := ty) (pos := pos) (af := af) (gd := gd) b args ts
  have h3 : pureVal P (builtin b ts ty #[] ⟨vs⟩) = some (.value r) := by
    cases hp : pureVal P (builtin b ts ty #[] ⟨vs⟩) with
    | none => rw [hp] at h1; cases h1
    | some n =>
      rw [hp] at h1
      cases n with
      | value v => simp only [nextV, Option.some.injEq] at h1; rw [h1]
      | _ => cases h1
  refine OpDone.keep E hk2 (VR.flat r h2) ?_
  rw [e2, e1, hb]
  exact pureVal_run h3 w
/-- A builtin that gives a value. -/
theorem OpDone.bi {e : Sem Value} {b : Builtin} {args : Array Operand} {ts : Array TypeId} (h : ∃ v s', k v s' = true ∧ ∃ m' w' u, e.run P w = .ok u w' ∧ m.le m' ∧ Emb P K B m' s' w' ∧ Below B w w' ∧ VR m' v u)
    (he : ∀ cs, builtin b ts ty cs ⟨args.toList.map ρ⟩ = (do pure (.value (← e)))) : OpDone P K B m w k ((execOp ρ ⟨dst, .call ⟨.builtin b, args, ts⟩, ty, pos, af, gd⟩).run P w) := by
  obtain ⟨cs, e2⟩ := exec_bi (ρ := ρ) (dst := dst) (ty := ty) (pos := pos) (af := af) (gd := gd) b args ts
  exact OpDone.of h (by rw [e2, he])
theorem op_bi {b : Builtin} {args : Array Operand} {ts : Array TypeId} (hc : compOp P ⟨dst, .call ⟨.builtin b, args, ts⟩, ty, pos, af, gd⟩ = some c) (hρ : Hρ m T ρ (.call ⟨.builtin b, args, ts⟩)) (E : Emb P K B m s w) (hk : runOpK P T s c k = true) :
    OpDone P K B m w k ((execOp ρ ⟨dst, .call ⟨.builtin b, args, ts⟩, ty, pos, af, gd⟩).run P w) := by
  have ho : ∀ x ∈ args.toList, ∀ X v, cx x = some X → XV T X v → VR m v (ρ x) := fun x hx X v => hρ x (by simp only [Op.operands, Call.operands]; simpa using hx) X v
  simp only [compOp] at hc
  split at hc
  · -- len
    rename_i x hl
    split at hc
    · rename_i e h1
      obtain ⟨X, h2, rfl⟩ := Option.map_eq_some_iff.1 hc
      obtain ⟨t0, h3, h4⟩ := get0 h1
      obtain ⟨v, hv, hk1⟩ := valK_inv (k := fun x => onSlice x (fun n _ => k (.int .i64 (.ofNat n)) s) (fun _ _ n _ => k (.int .i64 (.ofNat n)) s)) hk
      obtain ⟨r, hk2, hr, hv2⟩ := len_ok (w := w) (ty := ty) h3 h4 (ho x (by rw [hl]; simp) X v h2 hv) hk1
      exact OpDone.bi (e := Builtin.len_ ts ty #[ρ x]) ⟨r, s, hk2, m, w, r, hr, Mp.le_refl m, E, Below.refl B w, hv2⟩ (fun cs => by rw [hl]; rfl)
    · rename_i h1
      obtain ⟨X, h2, rfl⟩ := Option.map_eq_some_iff.1 hc
      exact bi_done E (fun cs l => rfl) (xs := [X]) (by rw [hl]; simp [cxs, h2]) hρ hk
    · cases hc
  · -- cap
    rename_i x hl
    split at hc
    · rename_i e h1
      obtain ⟨X, h2, rfl⟩ := Option.map_eq_some_iff.1 hc
      obtain ⟨t0, h3, h4⟩ := get0 h1
      obtain ⟨v, hv, hk1⟩ := valK_inv (k := fun x => oK s k (evCap x)) hk
      obtain ⟨r, hr, hk2⟩ := oK_inv hk1
      obtain ⟨hr2, hv2⟩ := cap_ok (w := w) (ty := ty) h3 h4 (ho x (by rw [hl]; simp) X v h2 hv) hr
      exact OpDone.bi (e := Builtin.cap_ ts ty #[ρ x]) ⟨r, s, hk2, m, w, r, hr2, Mp.le_refl m, E, Below.refl B w, hv2⟩ (fun cs => by rw [hl]; rfl)
    · cases hc
  · -- append
    rename_i x y hl
    split at hc
    · rename_i e d X Y h1 h2 h3 h4
      split at hc
      · rename_i i z h5 h6
        obtain ⟨h7, hc⟩ := sel_inv hc
        simp only [Bool.and_eq_true, Bool.not_eq_true'] at h7
        obtain ⟨t0, g1, g2⟩ := get0 h1
        obtain ⟨t1, g3, g4⟩ := get0 h2
        have hz : z.size = i.size := by simpa using h7.1
        have h0 : i.size ≠ 0 := by
          intro e
          have := h7.2
          rw [e] at this
          cases this
        have go : ∀ ints, ((ints = true ∧ ∃ q, d = .int q) ∨ (ints = false ∧ ∃ q, d = .slice q)) → runOpK P T s (.app e i.size i.bytes z.toList ints X Y) k = true → OpDone P K B m w k ((execOp ρ ⟨dst, .call ⟨.builtin .append, args, ts⟩, ty, pos, af, gd⟩).run P w) := by
          intro ints hd hk
          obtain ⟨v, hv, hk1⟩ := valK_inv (k := fun x => valK T Y (fun y => appK s e i.size i.bytes z.toList ints x y k)) hk
          obtain ⟨u, hu, hk2⟩ := valK_inv hk1
          exact OpDone.bi (e := Builtin.append_ ts ty #[ρ x, ρ y]) (app_ok g1 g2 g3 g4 hd h5 h6 hz h0 E (ho x (by rw [hl]; simp) X v h3 hv) (ho y (by rw [hl]; simp) Y u h4 hu) hk2) (fun cs => by rw [hl]; rfl)
        split at hc
        · cases hc; exact go true (.inl ⟨rfl, _, rfl⟩) hk
        · cases hc; exact go false (.inr ⟨rfl, _, rfl⟩) hk
        · cases hc
      · cases hc
    · cases hc
  · -- copy
    rename_i x y hl
    split at hc
    · rename_i e X Y h1 h3 h4
      obtain ⟨i, h5, rfl⟩ := Option.map_eq_some_iff.1 hc
      obtain ⟨t0, g1, g2⟩ := get0 h1
      obtain ⟨v, hv, hk1⟩ := valK_inv (k := fun x => valK T Y (fun y => copyK s i.size x y k)) hk
      obtain ⟨u, hu, hk2⟩ := valK_inv hk1
      obtain ⟨r, s', hk3, w', hr, hE, hB, hv2⟩ := copy_ok (ty := ty) g1 g2 h5 E (ho x (by rw [hl]; simp) X v h3 hv) (ho y (by rw [hl]; simp) Y u h4 hu) hk2
      exact OpDone.bi (e := Builtin.copy_ ts ty #[ρ x, ρ y]) ⟨r, s', hk3, m, w', r, hr, Mp.le_refl m, hE, hB, hv2⟩ (fun cs => by rw [hl]; rfl)
    · cases hc
  · -- clear
    rename_i x hl
    split at hc
    · rename_i e X h1 h3
      split at hc
      · rename_i i z h5 h6
        obtain ⟨h7, hc⟩ := sel_inv hc
        cases hc
        obtain ⟨t0, g1, g2⟩ := get0 h1
        obtain ⟨v, hv, hk1⟩ := valK_inv (k := fun x => clearK s i.size z.toList x k) hk
        obtain ⟨s', hk3, w', hr, hE, hB⟩ := clear_ok (ty := ty) g1 g2 h5 h6 (by simpa using h7) E (ho x (by rw [hl]; simp) X v h3 hv) hk1
        exact OpDone.bi (e := Builtin.clear_ ts ty #[ρ x]) ⟨_, s', hk3, m, w', _, hr, Mp.le_refl m, hE, hB, VR.flat _ rfl⟩ (fun cs => by rw [hl]; rfl)
      · cases hc
    · cases hc
  · rename_i hn1
    obtain ⟨xs, h2, rfl⟩ := Option.map_eq_some_iff.1 hc
    exact bi_done E (fun cs l => rfl) h2 hρ hk
  · obtain ⟨xs, h2, rfl⟩ := Option.map_eq_some_iff.1 hc
    exact bi_done E (fun cs l => rfl) h2 hρ hk
  · cases hc

/-- An operation that is no call of a function. -/
def noCall : Op → Bool
  | .call { callee := .value _, .. } => false
  | _ => true
/-- Every operation that is taken, calls apart. -/
theorem op_all {op : Op} (hn : noCall op = true) (hc : compOp P ⟨dst, op, ty, pos, af, gd⟩ = some c) (hρ : Hρ m T ρ op) (E : Emb P K B m s w) (hk : runOpK P T s c k = true) : OpDone P K B m w k ((execOp ρ ⟨dst, op, ty, pos, af, gd⟩).run P w) := by
  cases op with
  | move x => exact op_move (.inl rfl) hc hρ E hk
  | assign x => exact op_move (.inr rfl) hc hρ E hk
  | pick => exact op_pick hc hρ E hk
  | alloc => exact op_alloc hc E hk
  | box => exact op_box hc hρ E hk
  | build => exact op_build hc hρ E hk
  | buildSlice => exact op_lit hc hρ E hk
  | load => exact op_load hc hρ E hk
  | store => exact op_store hc hρ E hk
  | nilCheck => exact op_nilc hc hρ E hk
  | binOp => exact op_bin hc hρ E hk
  | unOp => exact op_un hc hρ E hk
  | convert => exact op_conv hc hρ E hk
  | makeInterface => exact op_mini hc hρ E hk
  | makeFunc fn => cases fn with
    | func f => exact op_fn hc hρ E hk
    | _ => cases hc
  | makeSlice => exact op_mks hc hρ E hk
  | slice => exact op_slc hc hρ E hk
  | fieldAddr => exact op_fa hc hρ E hk
  | field => exact op_fld hc hρ E hk
  | indexAddr => exact op_ia hc hρ E hk
  | index => exact op_ix hc hρ E hk
  | typeAssert => exact op_tas hc hρ E hk
  | extract => exact op_ext hc hρ E hk
  | call cl =>
    obtain ⟨ce, args, ts⟩ := cl
    cases ce with
    | builtin b => exact op_bi hc hρ E hk
    | value f => cases hn
    | invoke => cases hc
  | _ => cases hc
end
end Go.Proofs.YtpedbdicjgdgkaaGreat.Ev

/- Operations in their order, calls among them. No program here. -/
namespace Go.Proofs.YtpedbdicjgdgkaaGreat.Ev
open Go Go.RowKit

/-- A fence that lets everything in, in a round or in none. -/
def Fr (r : Option Nat) : Fence := { Fence.wide with round := r }
theorem callsIn_Fr {r : Option Nat} {n : Nat} {P : Program} {f : FuncId} {args : Array Value} {w : World} {R : Ending → World → Prop} (h : CallsIn Fence.wide 0 P f args w R) : CallsIn (Fr r) n P f args w R :=
  ⟨trivial, fun cs _ => h.2 cs (room_wide _)⟩

/-- How a call ends. -/
def Ends (P : Program) (K : Kp) (B : Nat) (m : Mp) (w : World) (k : Value → St → Bool) : Ending → World → Prop
  | .returned u, w' => ∃ v s' m', k v s' = true ∧ m.le m' ∧ Emb P K B m' s' w' ∧ Below B w w' ∧ VR m' v u
  | _, _ => False

/-- Calls of the level below. -/
structure CallOk (P : Program) (K : Kp) (B : Nat) (O : OK) : Prop where
  call : ∀ {f : FuncId} {vs : List Value} {s : St} {k : Value → St → Bool}, O.call f vs s k = true → ∀ {m : Mp} {w : World} {us : List Value}, Emb P K B m s w → LR m vs us →
    (∀ w, (callFunc f ⟨us⟩).run P w = .ok (.enter f ⟨us⟩) w) ∧ CallsIn Fence.wide 0 P f ⟨us⟩ w (Ends P K B m w k)
  round : ∀ {l : Nat} {vs : List Value} {s : St} {k : Value → St → Bool}, roundK O l vs s k = true → ∀ {m : Mp} {w : World} {us : List Value} {x y : Nat}, m l = some (x, y) → Emb P K B m s w → LR m vs us →
    ∃ f tmps assign body, (Instr.yield x ⟨us⟩).run P w = .ok (.round x f tmps assign body) w ∧ ∀ r n, RoundIn (Fr r) n P x f tmps assign body w (Ends P K B m w k)

theorem eval_ok {m : Mp} {T : BT Value} {a : Act} (hT : TR m T a.tmps) {x : Operand} {X : X} {v : Value} (hx : cx x = some X) (hv : XV T X v) : VR m v (a.eval x) := by
  cases x with
  | tmp t =>
    simp only [cx, Option.some.injEq] at hx
    subst hx
    obtain ⟨v', h1, h2⟩ := hT t v hv
    have : a.eval (.tmp t) = v' := by simp [Act.eval, Array.getD_eq_getD_getElem?, h1]
    rw [this]
    exact h2
  | const u =>
    simp only [cx] at hx
    obtain ⟨hf, hx⟩ := sel_inv hx
    cases hx
    simp only [XV] at hv
    subst hv
    exact VR.flat v hf
  | func f =>
    simp only [cx, Option.some.injEq] at hx
    subst hx
    simp only [XV] at hv
    subst hv
    exact VR.flat _ (by simp [flat, flatA, flatL])
  | global g => cases hx
theorem eval_Hρ {m : Mp} {T : BT Value} {a : Act} (hT : TR m T a.tmps) (op : Op) : Hρ m T a.eval op := fun _ _ _ _ hx hv => eval_ok hT hx hv
theorem put_ok {m : Mp} {T : BT Value} {a : Act} (hT : TR m T a.tmps) {d : Option Nat} {v u : Value} {k : BT Value → Bool} (hv : VR m v u) (hk : putTK T d v k = true) : ∃ T', k T' = true ∧ TR m T' (a.put d u).tmps ∧ (a.put d u).defers = a.defers := by
  cases d with
  | none => exact ⟨T, hk, hT, rfl⟩
  | some d =>
    obtain ⟨T', hk, hd, hg⟩ := updK_inv (k := k) hk
    refine ⟨T', hk, fun t x ht => ?_, rfl⟩
    obtain ⟨x0, hx0⟩ := Option.isSome_iff_exists.1 hd
    obtain ⟨x1, h1, _⟩ := hT d x0 hx0
    have hlt : d < a.tmps.size := (Array.getElem?_eq_some_iff.1 h1).1
    rw [hg] at ht
    by_cases h : t = d
    · subst h
      rw [if_pos rfl] at ht
      cases ht
      exact ⟨u, by simp [Act.put, hlt], hv⟩
    · rw [if_neg h] at ht
      obtain ⟨x', h2, h3⟩ := hT t x ht
      exact ⟨x', by simp only [Act.put]; rw [Array.getElem?_setIfInBounds_ne (by omega)]; exact h2, h3⟩

theorem runAny_inv {P : Program} {O : OK} {T : BT Value} {s : St} {c : COp} {k : Value → St → Bool} (h : runAnyK P O T s c k = true) : runOpK P T s c k = true ∨ ∃ f l, c = .call f l ∧ valK T f (fun f => valsK T l (fun l => callVK O s l f k)) = true := by
  cases c <;> first | exact .inl h | exact .inr ⟨_, _, rfl, h⟩
theorem appL_eq (a b : List Value) : appL a b = a ++ b := by
  induction a with
  | nil => rfl
  | cons v l ih => show v :: appL l b = _; rw [ih]; rfl

section
variable {P : Program} {K : Kp} {B : Nat} {m : Mp} {s : St} {w : World} {T : BT Value} {dst : Option Tmp} {ty : TypeId} {pos : String} {af : Array Edge} {gd : Option (Nat × Bool)} {c : COp}
theorem no_call {op : Op} {X : Ev.X} {l : List Ev.X} (hn : noCall op = true) (hc : compOp P ⟨dst, op, ty, pos, af, gd⟩ = some (.call X l)) : False := by
  have hm : ∀ {α : Type} {x : Option α} {f : α → COp}, (∀ a, f a ≠ .call X l) → x.map f = some (.call X l) → False := by
    intro α x f hf h
    obtain ⟨a, _, e⟩ := Option.map_eq_some_iff.1 h
    exact hf a e
  have hs : ∀ {b : Bool} {c : COp}, c ≠ .call X l → sel b (some c) none = some (.call X l) → False := by
    intro b c hc h
    obtain ⟨_, h⟩ := sel_inv h
    exact hc (Option.some.inj h)
  have hs2 : ∀ {b : Bool} {c : COp}, c ≠ .call X l → sel b none (some c) = some (.call X l) → False := by
    intro b c hc h
    cases b with
    | true => cases h
    | false => exact hc (Option.some.inj h)
  cases op with
  | call cl =>
    obtain ⟨ce, args, ts⟩ := cl
    cases ce with
    | value f => cases hn
    | invoke => cases hc
    | builtin b =>
      simp only [compOp] at hc
      repeat' split at hc
      all_goals first | exact hm (by simp) hc | exact hs (by simp) hc | (cases hc; done) | (obtain ⟨_, hc⟩ := sel_inv hc; cases hc; done)
  | makeFunc fn => cases fn with
    | func f =>
      simp only [compOp] at hc
      repeat' split at hc
      all_goals cases hc
    | _ => cases hc
  | _ =>
    simp only [compOp] at hc
    repeat' split at hc
    all_goals first | exact hm (by simp) hc | exact hs (by simp) hc | exact hs2 (by simp) hc | (cases hc; done)

/-- What stands behind an operation. -/
def Then (P : Program) (K : Kp) (B : Nat) (m : Mp) (a : Act) (w : World) (k : BT Value → St → Bool) (a' : Act) (w' : World) : Prop :=
  ∃ T' s' m', k T' s' = true ∧ m.le m' ∧ Emb P K B m' s' w' ∧ TR m' T' a'.tmps ∧ a'.defers = a.defers ∧ Below B w w'

/-- What an operation hands on, and how it stands then. -/
def Gives (P : Program) (K : Kp) (B : Nat) (m : Mp) (a : Act) (w : World) (d : Option Tmp) (k : Value → St → Bool) (a' : Act) (w' : World) : Prop :=
  ∃ v u s' m', k v s' = true ∧ m.le m' ∧ Emb P K B m' s' w' ∧ Below B w w' ∧ VR m' v u ∧ a' = a.put d u
theorem oper_val {O : OK} (hO : CallOk P K B O) {r : Option Nat} {n : Nat} {o : Oper} {a : Act} {k : Value → St → Bool} {Q : Exit → Act → World → Prop} (hc : compOp P o = some c) (E : Emb P K B m s w) (hρ : Hρ m T a.eval o.op)
    (hk : runAnyK P O T s c k = true) : o.wpIn (Fr r) n P a w (Gives P K B m a w o.dst k) Q := by
  obtain ⟨dst, op, ty, pos, af, gd⟩ := o
  have hdef : ∀ cl, op ≠ .defer cl := by
    rintro cl rfl
    cases hc
  refine ⟨fun _ _ => trivial, ?_⟩
  have hsem : Oper.semAt (Fr r).round a.eval ⟨dst, op, ty, pos, af, gd⟩ = execOp a.eval ⟨dst, op, ty, pos, af, gd⟩ := Oper.semAt_eq _ _ _ hdef
  rw [hsem]
  have fin : ∀ {v u : Value} {s' : St} {m' : Mp} {w' : World}, k v s' = true → m.le m' → Emb P K B m' s' w' → Below B w w' → VR m' v u → Gives P K B m a w dst k (a.put dst u) w' := by
    intro v u s' m' w' hk hle hE hB hv
    exact ⟨v, u, s', m', hk, hle, hE, hB, hv, rfl⟩
  by_cases hn : noCall op = true
  · rcases runAny_inv hk with hk | ⟨X, l, rfl, _⟩
    · obtain ⟨v, s', hk, m', w', nx, hr, hfi, hle, hE, hB, hv⟩ := op_all hn hc hρ E hk
      rw [hr]
      cases nx with
      | value u => exact fin hk hle hE hB hv
      | skip => exact fin hk hle hE hB hv
      | _ => exact hfi.elim
    · exact (no_call hn hc).elim
  · have : ∃ f args ts, op = .call ⟨.value f, args, ts⟩ := by
      cases op with
      | call cl =>
        obtain ⟨ce, args, ts⟩ := cl
        cases ce with
        | value f => exact ⟨f, args, ts, rfl⟩
        | _ => exact absurd rfl hn
      | _ => exact absurd rfl hn
    obtain ⟨f, args, ts, rfl⟩ := this
    simp only [compOp] at hc
    split at hc
    · rename_i X l h1 h2
      cases hc
      have hk0 : valK T X (fun f => valsK T l (fun l => callVK O s l f k)) = true := hk
      obtain ⟨fv, hf, hk1⟩ := valK_inv hk0
      obtain ⟨vs, hv, hk2⟩ := valsK_inv hk1
      have ef := hρ f (by simp [Op.operands, Call.operands]) X fv h1 hf
      have ea := cxs_ok h2 hv (ρ := a.eval) (fun x hx X v => hρ x (by simp only [Op.operands, Call.operands]; exact Array.mem_append.2 (.inr (by simpa using hx))) X v)
      have ex : execOp a.eval ⟨dst, .call ⟨.value f, args, ts⟩, ty, pos, af, gd⟩ = (do let d ← Deferred.ofValue (a.eval f) ⟨args.toList.map a.eval⟩; invoke d.target d.args) := by
        rw [← map_list]
        rfl
      have ends : ∀ {e : Ending} {w' : World}, Ends P K B m w k e w' → (match (generalizing := false) e, w' with
          | .returned v, w'' => Gives P K B m a w dst k (a.put dst v) w''
          | .panicked chain, w'' => Q (.panic chain) a w''
          | .outgrown, _ => LetsOut Q) := by
        intro e w' h
        cases e with
        | returned u =>
          obtain ⟨v, s', m', hk, hle, hE, hB, hv⟩ := h
          exact fin hk hle hE hB hv
        | panicked => exact h.elim
        | outgrown => exact h.elim
      rcases onFunc_inv hk2 with ⟨g, p, cc, rfl, hk3⟩ | ⟨q, p, cc, rfl, hk3⟩
      · simp only [VR, AR] at ef
        obtain ⟨p', c', hfe, ⟨pl, rfl, hp⟩, ⟨cl, rfl, hcl⟩⟩ := ef
        rw [appL_eq, appL_eq] at hk3
        obtain ⟨hcf, hcall⟩ := hO.call hk3 E (hp.append (ea.append hcl))
        rw [ex, hfe]
        have : (do let d ← Deferred.ofValue (.func (.func g) ⟨pl⟩ ⟨cl⟩) ⟨args.toList.map a.eval⟩; invoke d.target d.args : Sem Next).run P w = .ok (.enter g ⟨pl ++ (args.toList.map a.eval ++ cl)⟩) w := by
          have := hcf w
          show (callFunc g ((⟨pl⟩ ++ ⟨args.toList.map a.eval⟩ : Array Value) ++ ⟨cl⟩)).run P w = _
          have e : ((⟨pl⟩ ++ ⟨args.toList.map a.eval⟩ : Array Value) ++ ⟨cl⟩) = ⟨pl ++ (args.toList.map a.eval ++ cl)⟩ := by
            apply Array.ext'
            simp
          rw [e]
          exact this
        rw [this, Oper.uponIn_enter]
        refine ⟨fun h => (by cases h), CallsIn.mono (callsIn_Fr hcall) (fun e w' h => ?_)⟩
        have := ends h
        cases e <;> exact this
      · simp only [VR, AR] at ef
        obtain ⟨x, y, p', c', hm, hfe, ⟨pl, rfl, hp⟩, ⟨cl, rfl, hcl⟩⟩ := ef
        rw [appL_eq] at hk3
        obtain ⟨fn, tmps, assign, body, hy, hround⟩ := hO.round hk3 hm E (hp.append ea)
        rw [ex, hfe]
        have : (do let d ← Deferred.ofValue (.func (.yield x) ⟨pl⟩ ⟨cl⟩) ⟨args.toList.map a.eval⟩; invoke d.target d.args : Sem Next).run P w = .ok (.round x fn tmps assign body) w := by
          show (Instr.yield x (⟨pl⟩ ++ ⟨args.toList.map a.eval⟩ : Array Value)).run P w = _
          have e : (⟨pl⟩ ++ ⟨args.toList.map a.eval⟩ : Array Value) = ⟨pl ++ args.toList.map a.eval⟩ := by
            apply Array.ext'
            simp
          rw [e]
          exact hy
        rw [this, Oper.uponIn_round]
        refine ⟨fun h => (by cases h), RoundIn.mono (hround r (n - 1)) (fun e w' h => ?_)⟩
        have := ends h
        cases e <;> exact this
    · cases hc
theorem oper_ok {O : OK} (hO : CallOk P K B O) {r : Option Nat} {n : Nat} {o : Oper} {a : Act} {k : BT Value → St → Bool} {Q : Exit → Act → World → Prop} (hc : compOp P o = some c) (E : Emb P K B m s w) (hT : TR m T a.tmps)
    (hk : runAnyK P O T s c (fun v s' => putTK T o.dst v (fun T' => k T' s')) = true) : o.wpIn (Fr r) n P a w (Then P K B m a w k) Q := by
  refine Oper.wpIn_mono ?_ (oper_val hO hc E (eval_Hρ hT o.op) hk)
  rintro a' w' ⟨v, u, s', m', hk, hle, hE, hB, hv, rfl⟩
  obtain ⟨T', h1, h2, h3⟩ := put_ok (hT.mono hle) hv hk
  exact ⟨T', s', m', h1, hle, hE, h2, h3, hB⟩
end
end Go.Proofs.YtpedbdicjgdgkaaGreat.Ev

/- Regions whose operations come in their order, and the code around them. No program here. -/
namespace Go.Proofs.YtpedbdicjgdgkaaGreat.Ev
open Go Go.RowKit

theorem Mp.le.trans {a b c : Mp} (h : a.le b) (k : b.le c) : a.le c := Mp.le_trans h k
theorem VR.bool_back {m : Mp} {v : Value} {b : Bool} (h : VR m v (.bool b)) : v = .bool b := by
  cases v with
  | func f p c => cases f <;> simp [VR] at h
  | pointer a => rcases a with _ | ⟨_, _, _ | _⟩ <;> simp [VR] at h
  | slice a n c => rcases a with _ | ⟨_, _, _ | _⟩ <;> simp [VR] at h
  | map a => cases a <;> simp [VR] at h
  | chan a => cases a <;> simp [VR] at h
  | _ => simp_all [VR]

section
variable {P : Program} {K : Kp} {B : Nat} {m : Mp} {s : St} {w : World} {T : BT Value}

theorem Then.step {a a' : Act} {w' : World} {k k' : BT Value → St → Bool} (h : Then P K B m a w k a' w') (hk : ∀ T' s' m', k T' s' = true → m.le m' → Emb P K B m' s' w' → TR m' T' a'.tmps → ∃ a'' w'', Then P K B m' a' w' k' a'' w'') : ∃ a'' w'', Then P K B m a w k' a'' w'' := by
  obtain ⟨T', s', m', h1, h2, h3, h4, h5, h6⟩ := h
  obtain ⟨a'', w'', T'', s'', m'', g1, g2, g3, g4, g5, g6⟩ := hk T' s' m' h1 h2 h3 h4
  exact ⟨a'', w'', T'', s'', m'', g1, h2.trans g2, g3, g4, by rw [g5, h5], h6.trans g6⟩

theorem wantsK_inv {g : Option (Nat × Bool)} {y n : Bool} {ops : Array Oper} {o : Oper} {i : Nat} {a : Act} (hT : TR m T a.tmps) (hg : (o.guard = none ∧ g = none) ∨ ∃ j w t, o.guard = some (j, w) ∧ (ops[j]?).bind (·.dst) = some t ∧ g = some (t, w)) (hk : wantsK T g y n = true) :
    (Region.wanted o (yielded ops a.tmps) = true ∧ y = true) ∨ (Region.wanted o (yielded ops a.tmps) = false ∧ n = true) := by
  rcases hg with ⟨h1, rfl⟩ | ⟨j, w, t, h1, h2, rfl⟩
  · exact .inl ⟨by simp [Region.wanted, h1], hk⟩
  · have hk0 : getK T t (fun v => onBoolZ v (fun b => @Bool.rec (fun _ => Bool) (@Bool.rec (fun _ => Bool) y n w) (@Bool.rec (fun _ => Bool) n y w) b) n) = true := hk
    obtain ⟨v, hv, hk1⟩ := getK_inv hk0
    obtain ⟨u, hu, hvu⟩ := hT t v hv
    have hy : yielded ops a.tmps j = match u with | .bool b => some b | _ => none := by
      unfold yielded
      rw [h2]
      simp only [Option.bind_some, hu]
      cases u <;> rfl
    rcases onBoolZ_inv hk1 with ⟨b, rfl, hk2⟩ | ⟨hb, hk2⟩
    · have : u = .bool b := by simpa only [VR] using hvu
      subst this
      simp only at hy
      cases b <;> cases w <;> first | exact .inl ⟨by simp [Region.wanted, h1, hy], hk2⟩ | exact .inr ⟨by simp [Region.wanted, h1, hy], hk2⟩
    · refine .inr ⟨?_, hk2⟩
      have : yielded ops a.tmps j = none := by
        rw [hy]
        cases u with
        | bool b => exact absurd hvu.bool_back (hb b)
        | _ => rfl
      simp [Region.wanted, h1, this]

theorem compItem_inv {ops : Array Oper} {i : Nat} {x : Item} (h : compItem P ops i = some x) :
    ∃ o, ops[i]? = some o ∧ x.d = o.dst ∧ x.op = orBad (compOp P o) ∧ ((o.guard = none ∧ x.g = none) ∨ ∃ j w t, o.guard = some (j, w) ∧ (ops[j]?).bind (·.dst) = some t ∧ x.g = some (t, w)) := by
  unfold compItem at h
  split at h
  · rename_i o ho
    split at h
    · rename_i hg
      cases h
      exact ⟨o, ho, rfl, rfl, .inl ⟨hg, rfl⟩⟩
    · rename_i j w hg
      split at h
      · rename_i t ht
        cases h
        exact ⟨o, ho, rfl, rfl, .inr ⟨j, w, t, hg, ht, rfl⟩⟩
      · cases h
  · cases h

theorem itemsOf_cons {ops : Array Oper} {i : Nat} {l : List Nat} {items : List Item} (h : itemsOf P ops ((i :: l).map (·, [])) = some items) : ∃ x xs, items = x :: xs ∧ compItem P ops i = some x ∧ itemsOf P ops (l.map (·, [])) = some xs := by
  simp only [List.map_cons, itemsOf, agains] at h
  split at h
  · rename_i x y xs h1 h2 h3
    cases h
    cases h2
    exact ⟨x, xs, rfl, h1, h3⟩
  · cases h

theorem items_ok {O : OK} (hO : CallOk P K B O) {r : Option Nat} {n : Nat} {ops : Array Oper} {Q : Exit → Act → World → Prop} {k : BT Value → St → Bool} : ∀ (l : List Nat) {items : List Item} {T : BT Value} {s : St} {m : Mp} {w : World} {a : Act}, itemsOf P ops (l.map (·, [])) = some items → Emb P K B m s w → TR m T a.tmps →
    itemsK P O items T s k = true → (∀ a' w', Then P K B m a w k a' w' → Q .normal a' w') → wpOpsIn (Fr r) n P ops Q l a w
  | [], items, T, s, m, w, a, hi, E, hT, hk, hQ => by
    cases hi
    exact hQ a w ⟨T, s, m, hk, Mp.le_refl m, E, hT, rfl, Below.refl B w⟩
  | i :: l, items, T, s, m, w, a, hi, E, hT, hk, hQ => by
    obtain ⟨⟨g, d, op⟩, xs, rfl, hx, hxs⟩ := itemsOf_cons hi
    obtain ⟨o, ho, hd, hop, hg⟩ := compItem_inv hx
    simp only at hd hop hg
    subst hd hop
    have rec_ : ∀ a' w', Then P K B m a w (fun T s => itemsK P O xs T s k) a' w' → wpOpsIn (Fr r) n P ops Q l a' w' := by
      rintro a' w' ⟨T', s', m', h1, h2, h3, h4, h5, h6⟩
      refine items_ok hO l hxs h3 h4 h1 (fun a'' w'' h => hQ a'' w'' ?_)
      obtain ⟨T'', s'', m'', g1, g2, g3, g4, g5, g6⟩ := h
      exact ⟨T'', s'', m'', g1, h2.trans g2, g3, g4, by rw [g5, h5], h6.trans g6⟩
    have hk0 : wantsK T g (runAnyK P O T s (orBad (compOp P o)) (fun v s => putTK T o.dst v (fun T => itemsK P O xs T s k))) (putTK T o.dst undef (fun T => itemsK P O xs T s k)) = true := hk
    simp only [wpOpsIn, ho]
    rcases wantsK_inv (i := i) hT hg hk0 with ⟨h1, h2⟩ | ⟨h1, h2⟩
    · rw [if_pos h1]
      cases hc : compOp P o with
      | none => rw [hc] at h2; cases h2
      | some c =>
        rw [hc] at h2
        exact Oper.wpIn_mono rec_ (oper_ok hO (k := fun T s => itemsK P O xs T s k) hc E hT h2)
    · rw [if_neg (by rw [h1]; simp)]
      refine ⟨fun _ _ => trivial, rec_ _ _ ?_⟩
      obtain ⟨T', h3, h4, h5⟩ := put_ok hT (VR.flat undef rfl) h2
      exact ⟨T', s, m, h3, Mp.le_refl m, E, h4, h5, Below.refl B w⟩

/-! ## Code -/
def XOf : Out → Exit
  | .normal => .normal
  | .ret => .ret
  | .exit id => .exit id
  | .goto l => .goto l
/-- The marks that a function's own loops leave. -/
def DR (m : Mp) : List Nat → List Deferred → Prop
  | [], l => l = []
  | q :: D, l => ∃ z y t, m q = some (z, y) ∧ l = { target := .collected z, args := #[] } :: t ∧ DR m D t
theorem DR.mono {m m' : Mp} (h : m.le m') : ∀ {D : List Nat} {l : List Deferred}, DR m D l → DR m' D l
  | [], _, hl => hl
  | q :: D, l, ⟨z, y, t, h1, h2, h3⟩ => ⟨z, y, t, h _ _ h1, h2, DR.mono h h3⟩
def RR (m : Mp) : Option Nat → Option Nat → Prop
  | none, r => r = none
  | some l, r => ∃ x y, m l = some (x, y) ∧ r = some x
theorem RR.mono {m m' : Mp} (h : m.le m') {r r' : Option Nat} (hr : RR m r r') : RR m' r r' := by
  cases r with
  | none => exact hr
  | some l => obtain ⟨x, y, h1, h2⟩ := hr; exact ⟨x, y, h _ _ h1, h2⟩

/-- How a piece of code is left. -/
def Left (P : Program) (K : Kp) (B : Nat) (m : Mp) (w : World) (k : Out → BT Value → List Nat → St → Bool) (e : Exit) (a' : Act) (w' : World) : Prop :=
  ∃ x T' D' s' m', k x T' D' s' = true ∧ e = XOf x ∧ m.le m' ∧ Emb P K B m' s' w' ∧ TR m' T' a'.tmps ∧ DR m' D' a'.defers ∧ Below B w w'
theorem Left.more {m m' : Mp} {w w' : World} {k : Out → BT Value → List Nat → St → Bool} {e : Exit} {a' : Act} {w'' : World} (hm : m.le m') (hB : Below B w w') (h : Left P K B m' w' k e a' w'') : Left P K B m w k e a' w'' := by
  obtain ⟨x, T', D', s', m'', h1, h2, h3, h4, h5, h6, h7⟩ := h
  exact ⟨x, T', D', s', m'', h1, h2, hm.trans h3, h4, h5, h6, hB.trans h7⟩

/-- A loop that stands ahead of a round. -/
def wpLoop (F : Fence) (n : Nat) (P : Program) (c : Code) (Q : Exit → Act → World → Prop) (a : Act) (w : World) : Prop :=
  ∀ (b : Frame) (k : List Go.Item) (cs : List Frame), b.roundOf = F.round → F.fn b.fn → F.room (cs.length + 1 + n) →
    ∃ e a' w', Q e a' w' ∧ ArrivesIn (Machine.fenced P F) P (lone (b.atR a (.code c :: .inLoop c :: k)) cs w) b k cs e a' w'
theorem wpLoop_round {F : Fence} {n : Nat} {c : Code} {Q : Exit → Act → World → Prop} {a : Act} (h : c.wpIn F n P (Exit.then (wpLoop F n P c Q) Q) a w) : wpLoop F n P c Q a w := by
  intro b k cs hro hb hr
  obtain ⟨e, a₁, w₁, hq, harr⟩ := h b (.inLoop c :: k) cs hro hb hr
  cases e with
  | normal =>
    obtain ⟨e₂, a₂, w₂, hq₂, harr₂⟩ := hq b k cs hro hb hr
    exact ⟨e₂, a₂, w₂, hq₂, .of_steps (StepsIn.trans harr (.one (fenced_calm hb hr rfl) stepR_inLoop)) harr₂⟩
  | exit id => exact ⟨_, a₁, w₁, hq, .pass (x := .inLoop c) rfl (fun _ _ => .inl (by simp)) harr⟩
  | goto l => exact ⟨_, a₁, w₁, hq, .pass (x := .inLoop c) rfl (fun _ _ => .inl (by simp)) harr⟩
  | ret => exact ⟨_, a₁, w₁, hq, .pass (x := .inLoop c) rfl (fun _ _ => .inl (by simp)) harr⟩
  | panic ch => exact ⟨_, a₁, w₁, hq, .pass (x := .inLoop c) rfl (fun _ _ => .inl (by simp)) harr⟩
  | outgrown => exact ⟨_, a₁, w₁, hq, .pass (x := .inLoop c) rfl (fun _ _ => .inl (by simp)) harr⟩
theorem wpIn_of_wpLoop {F : Fence} {n : Nat} {c : Code} {Q : Exit → Act → World → Prop} {a : Act} (h : wpLoop F n P c Q a w) : (Code.loop c).wpIn F n P Q a w := by
  intro b k cs hro hb hr
  obtain ⟨e, a', w', hq, harr⟩ := h b k cs hro hb hr
  exact ⟨e, a', w', hq, .of_steps (.one (fenced_calm hb hr rfl) stepR_loop) harr⟩
theorem wpLoop_mono {F : Fence} {n : Nat} {c : Code} {Q Q' : Exit → Act → World → Prop} {a : Act} (h : wpLoop F n P c Q a w) (hq : ∀ e a w, Q e a w → Q' e a w) : wpLoop F n P c Q' a w :=
  fun b k cs hro hb hr => let ⟨e, a', w', q, r⟩ := h b k cs hro hb hr; ⟨e, a', w', hq _ _ _ q, r⟩
end
end Go.Proofs.YtpedbdicjgdgkaaGreat.Ev
