import Derived.Test.YtoeklhdklcpllaaZe03
import Derived.MapKept
import Derived.OrdersIn
import Derived.Scope
import Derived.RangeFuncRecord
set_option linter.unusedVariables false
set_option linter.unusedSimpArgs false
namespace Go.Proofs.Ytoeklhdklcpllaa.Ev
open Go Go.RowKit
theorem map_list (ρ : Operand -> Value) (a : Array Operand) : a.map ρ = ⟨a.toList.map ρ⟩ := by
 apply Array.ext'
 simp
theorem map_parts (ρ : Operand -> Value) (a : Array (Nat × Operand)) : (a.map fun (p : Nat × Operand) => (p.1, ρ p.2)) = ⟨a.toList.map fun (p : Nat × Operand) => (p.1, ρ p.2)⟩ := by
 apply Array.ext'
 simp
section
variable {P : Program} {K : Kp} {B : Nat} {m : Mp} {s : St} {w : World} {T : BT Value} {ρ : Operand -> Value} {k : Value -> St -> Bool} {dst : Option Tmp} {ty : TypeId} {pos : String} {af : Array Edge} {gd : Option (Nat × Bool)} {c : COp}
theorem oK_inv {x : Option Value} (h : oK s k x = true) : ∃ v, x = some v /\ k v s = true := by
 cases x with
 | none => cases h
 | some v => exact ⟨v, rfl, by simpa [oK, optK, vK, forceV_eq] using h⟩
theorem OpDone.of {e : Sem Value} {op : Oper} (h : ∃ v s', k v s' = true /\ ∃ m' w' u, e.run P w = .ok u w' /\ m.le m' /\ Emb P K B m' s' w' /\ Below B w w' /\ VR m' v u) (he : execOp ρ op = (do pure (.value (<- e)))) : OpDone P K B m w k ((execOp ρ op).run P w) := by
 obtain ⟨v, s', hk, m', w', u, hr, hle, hE, hB, hv⟩ := h
 refine ⟨v, s', hk, m', w', .value u, ?_, trivial, hle, hE, hB, hv⟩
 rw [he, Sem.run_bind, hr]
 rfl
theorem OpDone.ofK (E : Emb P K B m s w) {e : Sem Value} {op : Oper} (h : ∃ v, k v s = true /\ ∃ u, e.run P w = .ok u w /\ VR m v u) (he : execOp ρ op = (do pure (.value (<- e)))) : OpDone P K B m w k ((execOp ρ op).run P w) := by
 obtain ⟨v, hk, u, hr, hv⟩ := h
 exact OpDone.of ⟨v, s, hk, m, w, u, hr, Mp.le_refl m, E, Below.refl B w, hv⟩ he
theorem op_un {u : UnOp} {t : TypeId} {x : Operand} (hc : compOp P ⟨dst, .unOp u t x, ty, pos, af, gd⟩ = some c) (hρ : Hρ m T ρ (.unOp u t x)) (E : Emb P K B m s w) (hk : runOpK P T s c k = true) : OpDone P K B m w k ((execOp ρ ⟨dst, .unOp u t x, ty, pos, af, gd⟩).run P w) := by
 simp only [compOp] at hc
 obtain ⟨X, h1, rfl⟩ := Option.map_eq_some_iff.1 hc
 obtain ⟨v, hv, hk1⟩ := valK_inv (k := fun x => oK s k (ev1 P (Op.unary u) x)) hk
 obtain ⟨r, hr, hk2⟩ := oK_inv hk1
 obtain ⟨h2, h3⟩ := ev1_ok (w := w) (hρ x (by simp [Op.operands]) X v h1 hv) hr
 exact OpDone.ofK E ⟨r, hk2, r, h2, h3⟩ rfl
theorem op_conv {a b : TypeId} {x : Operand} (hc : compOp P ⟨dst, .convert a b x, ty, pos, af, gd⟩ = some c) (hρ : Hρ m T ρ (.convert a b x)) (E : Emb P K B m s w) (hk : runOpK P T s c k = true) : OpDone P K B m w k ((execOp ρ ⟨dst, .convert a b x, ty, pos, af, gd⟩).run P w) := by
 simp only [compOp] at hc
 obtain ⟨X, h1, rfl⟩ := Option.map_eq_some_iff.1 hc
 obtain ⟨v, hv, hk1⟩ := valK_inv (k := fun x => oK s k (ev1 P (convert a b) x)) hk
 obtain ⟨r, hr, hk2⟩ := oK_inv hk1
 obtain ⟨h2, h3⟩ := ev1_ok (w := w) (hρ x (by simp [Op.operands]) X v h1 hv) hr
 exact OpDone.ofK E ⟨r, hk2, r, h2, h3⟩ rfl
theorem op_mini {t : TypeId} {x : Operand} (hc : compOp P ⟨dst, .makeInterface t x, ty, pos, af, gd⟩ = some c) (hρ : Hρ m T ρ (.makeInterface t x)) (E : Emb P K B m s w) (hk : runOpK P T s c k = true) : OpDone P K B m w k ((execOp ρ ⟨dst, .makeInterface t x, ty, pos, af, gd⟩).run P w) := by
 simp only [compOp] at hc
 obtain ⟨X, h1, rfl⟩ := Option.map_eq_some_iff.1 hc
 obtain ⟨v, hv, hk1⟩ := valK_inv (k := fun x => oK s k (ev1 P (Instr.makeInterface t) x)) hk
 obtain ⟨r, hr, hk2⟩ := oK_inv hk1
 obtain ⟨h2, h3⟩ := ev1_ok (w := w) (hρ x (by simp [Op.operands]) X v h1 hv) hr
 exact OpDone.ofK E ⟨r, hk2, r, h2, h3⟩ rfl
theorem op_tas {a b : TypeId} {o : Bool} {x : Operand} (hc : compOp P ⟨dst, .typeAssert x a b o, ty, pos, af, gd⟩ = some c) (hρ : Hρ m T ρ (.typeAssert x a b o)) (E : Emb P K B m s w) (hk : runOpK P T s c k = true) : OpDone P K B m w k ((execOp ρ ⟨dst, .typeAssert x a b o, ty, pos, af, gd⟩).run P w) := by
 simp only [compOp] at hc
 obtain ⟨X, h1, rfl⟩ := Option.map_eq_some_iff.1 hc
 obtain ⟨v, hv, hk1⟩ := valK_inv (k := fun x => oK s k (ev1 P (fun v => Instr.typeAssert v a b o) x)) hk
 obtain ⟨r, hr, hk2⟩ := oK_inv hk1
 obtain ⟨h2, h3⟩ := ev1_ok (w := w) (hρ x (by simp [Op.operands]) X v h1 hv) hr
 exact OpDone.ofK E ⟨r, hk2, r, h2, h3⟩ rfl
theorem op_fn {f : FuncId} {p q : Array Operand} (hc : compOp P ⟨dst, .makeFunc (.func f) p q, ty, pos, af, gd⟩ = some c) (hρ : Hρ m T ρ (.makeFunc (.func f) p q)) (E : Emb P K B m s w) (hk : runOpK P T s c k = true) : OpDone P K B m w k ((execOp ρ ⟨dst, .makeFunc (.func f) p q, ty, pos, af, gd⟩).run P w) := by
 simp only [compOp] at hc
 split at hc
 ·rename_i xs ys h1 h2
  cases hc
  obtain ⟨vs, hv, hk1⟩ := valsK_inv (k := fun p => valsK T ys (fun c => k (.func (.func f) ⟨p⟩ ⟨c⟩) s)) hk
  obtain ⟨us, hu, hk2⟩ := valsK_inv hk1
  have e1 := cxs_ok h1 hv (fun x hx X v => hρ x (by simp [Op.operands]; exact .inl (by simpa using hx)) X v)
  have e2 := cxs_ok h2 hu (fun x hx X v => hρ x (by simp [Op.operands]; exact .inr (by simpa using hx)) X v)
  refine OpDone.ofK E ⟨_, hk2, .func (.func f) (p.map ρ) (q.map ρ), rfl, ?_⟩ rfl
  rw [map_list, map_list]
  simp only [VR, AR]
  exact ⟨_, _, rfl, ⟨_, rfl, e1⟩, ⟨_, rfl, e2⟩⟩
 ·cases hc
theorem op_mks {t : TypeId} {x y : Operand} (hc : compOp P ⟨dst, .makeSlice t x y, ty, pos, af, gd⟩ = some c) (hρ : Hρ m T ρ (.makeSlice t x y)) (E : Emb P K B m s w) (hk : runOpK P T s c k = true) : OpDone P K B m w k ((execOp ρ ⟨dst, .makeSlice t x y, ty, pos, af, gd⟩).run P w) := by
 simp only [compOp] at hc
 split at hc
 ·rename_i e X Y h1 h2 h3
  split at hc
  ·rename_i i z h4 h5
   obtain ⟨h6, hc⟩ := sel_inv hc
   cases hc
   obtain ⟨vx, hx, hk1⟩ := valK_inv (k := fun l => valK T Y (fun c => mksK s e i.size i.bytes z.toList l c k)) hk
   obtain ⟨vy, hy, hk2⟩ := valK_inv hk1
   exact OpDone.of (mks_ok h1 h4 h5 (by simpa using h6) E (hρ x (by simp [Op.operands]) X vx h2 hx) (hρ y (by simp [Op.operands]) Y vy h3 hy) hk2) rfl
  ·cases hc
 ·cases hc
theorem op_fa {t : TypeId} {x : Operand} {f : Nat} (hc : compOp P ⟨dst, .fieldAddr t x f, ty, pos, af, gd⟩ = some c) (hρ : Hρ m T ρ (.fieldAddr t x f)) (E : Emb P K B m s w) (hk : runOpK P T s c k = true) : OpDone P K B m w k ((execOp ρ ⟨dst, .fieldAddr t x f, ty, pos, af, gd⟩).run P w) := by
 simp only [compOp] at hc
 split at hc
 ·rename_i fs X h1 h2
  split at hc
  ·rename_i fd h3
   split at hc
   ·rename_i i h4
    cases h0 : Nat.beq i.size 0 with
    | true => rw [h0] at hc; cases hc
    | false =>
     rw [h0] at hc
     cases hc
     obtain ⟨vx, hx, hk1⟩ := valK_inv (k := fun x => faK x fd.offset (vK s k)) hk
     have h0' : i.size ≠ 0 := by
      intro e
      rw [e] at h0
      cases h0
     exact OpDone.ofK E (fa_ok (w := w) h1 h3 h4 h0' (hρ x (by simp [Op.operands]) X vx h2 hx) hk1) rfl
   ·cases hc
  ·cases hc
 ·cases hc
theorem op_fld {t : TypeId} {x : Operand} {f : Nat} (hc : compOp P ⟨dst, .field t x f, ty, pos, af, gd⟩ = some c) (hρ : Hρ m T ρ (.field t x f)) (E : Emb P K B m s w) (hk : runOpK P T s c k = true) : OpDone P K B m w k ((execOp ρ ⟨dst, .field t x f, ty, pos, af, gd⟩).run P w) := by
 simp only [compOp] at hc
 split at hc
 ·rename_i fs X h1 h2
  split at hc
  ·rename_i fd h3
   obtain ⟨n, h4, rfl⟩ := Option.map_eq_some_iff.1 hc
   obtain ⟨vx, hx, hk1⟩ := valK_inv (k := fun x => onAgg x (fun l => partK l fd.offset n (vK s k))) hk
   exact OpDone.ofK E (fld_ok (w := w) h1 h3 h4 (hρ x (by simp [Op.operands]) X vx h2 hx) hk1) rfl
  ·cases hc
 ·cases hc
theorem op_ia {t : TypeId} {x y : Operand} (hc : compOp P ⟨dst, .indexAddr t x y, ty, pos, af, gd⟩ = some c) (hρ : Hρ m T ρ (.indexAddr t x y)) (E : Emb P K B m s w) (hk : runOpK P T s c k = true) : OpDone P K B m w k ((execOp ρ ⟨dst, .indexAddr t x y, ty, pos, af, gd⟩).run P w) := by
 simp only [compOp] at hc
 split at hc
 ·rename_i e X Y h1 h2 h3
  obtain ⟨i, h4, rfl⟩ := Option.map_eq_some_iff.1 hc
  obtain ⟨vx, hx, hk1⟩ := valK_inv (k := fun x => valK T Y (fun j => iaK x j i.size (vK s k))) hk
  obtain ⟨vy, hy, hk2⟩ := valK_inv hk1
  exact OpDone.ofK E (ia_ok (w := w) h1 h4 (hρ x (by simp [Op.operands]) X vx h2 hx) (hρ y (by simp [Op.operands]) Y vy h3 hy) hk2) rfl
 ·rename_i n e X Y h1 h2 h3
  obtain ⟨i, h4, rfl⟩ := Option.map_eq_some_iff.1 hc
  obtain ⟨vx, hx, hk1⟩ := valK_inv (k := fun x => valK T Y (fun j => iaaK x j n i.size (vK s k))) hk
  obtain ⟨vy, hy, hk2⟩ := valK_inv hk1
  exact OpDone.ofK E (iaa_ok (w := w) h1 h4 (hρ x (by simp [Op.operands]) X vx h2 hx) (hρ y (by simp [Op.operands]) Y vy h3 hy) hk2) rfl
 ·cases hc
theorem op_ix {t : TypeId} {x y : Operand} (hc : compOp P ⟨dst, .index t x y, ty, pos, af, gd⟩ = some c) (hρ : Hρ m T ρ (.index t x y)) (E : Emb P K B m s w) (hk : runOpK P T s c k = true) : OpDone P K B m w k ((execOp ρ ⟨dst, .index t x y, ty, pos, af, gd⟩).run P w) := by
 simp only [compOp] at hc
 split at hc
 ·rename_i n e X Y h1 h2 h3
  split at hc
  ·rename_i i q h4 h5
   cases hc
   obtain ⟨vx, hx, hk1⟩ := valK_inv (k := fun x => valK T Y (fun j => ixK x j n i.size q (vK s k))) hk
   obtain ⟨vy, hy, hk2⟩ := valK_inv hk1
   exact OpDone.ofK E (ix_ok (w := w) h1 h4 h5 (hρ x (by simp [Op.operands]) X vx h2 hx) (hρ y (by simp [Op.operands]) Y vy h3 hy) hk2) rfl
  ·cases hc
 ·rename_i X Y h1 h2 h3
  cases hc
  obtain ⟨vx, hx, hk1⟩ := valK_inv (k := fun x => valK T Y (fun i => oK s k (evIxs P t x i))) hk
  obtain ⟨vy, hy, hk2⟩ := valK_inv hk1
  obtain ⟨r, hr, hk3⟩ := oK_inv hk2
  unfold evIxs at hr
  obtain ⟨hf, hr⟩ := sel_inv hr
  simp only [Bool.and_eq_true] at hf
  obtain ⟨h4, h5⟩ := flatR_inv hr
  have ex := VR.same vx hf.1 (hρ x (by simp [Op.operands]) X vx h2 hx)
  have ey := VR.same vy hf.2 (hρ y (by simp [Op.operands]) Y vy h3 hy)
  refine OpDone.ofK E ⟨r, hk3, r, ?_, VR.flat r h5⟩ (e := Instr.index t (ρ x) (ρ y)) rfl
  rw [ex, ey]
  exact pureVal_run h4 w
 ·cases hc
theorem op_ext {x : Operand} {i : Nat} (hc : compOp P ⟨dst, .extract x i, ty, pos, af, gd⟩ = some c) (hρ : Hρ m T ρ (.extract x i)) (E : Emb P K B m s w) (hk : runOpK P T s c k = true) : OpDone P K B m w k ((execOp ρ ⟨dst, .extract x i, ty, pos, af, gd⟩).run P w) := by
 simp only [compOp] at hc
 obtain ⟨X, h1, rfl⟩ := Option.map_eq_some_iff.1 hc
 obtain ⟨v, hv, hk1⟩ := valK_inv (k := fun x => onTuple x (fun l => nthK l i (vK s k))) hk
 exact OpDone.ofK E (ext_ok (w := w) (hρ x (by simp [Op.operands]) X v h1 hv) hk1) rfl
theorem sliceAt_run {t : TypeId} {d : TypeDesc} {u : Value} {lo hi mx : Option Value} (ht : P.underlying t = some d) (hd : ∀ n e, d ≠ .array n e) : (Instr.sliceAt t u lo hi mx).run P w = (Instr.slice t u lo hi mx).run P w := by
 unfold Instr.sliceAt
 cases d with
 | array n e => exact absurd rfl (hd _ _)
 | _ => simp only [Sem.run_bind, run_und ht, Result.andThen_ok]
theorem VO.flat_same {v u : Option Value} (h : VO m v u) (hf : flatO v = true) : u = v := by
 cases v with
 | none => simpa only [VO] using h
 | some v =>
  simp only [VO] at h
  obtain ⟨u', rfl, h⟩ := h
  rw [VR.same v hf h]
theorem op_slc {t : TypeId} {x : Operand} {lo hi mx : Option Operand} (hc : compOp P ⟨dst, .slice t x lo hi mx, ty, pos, af, gd⟩ = some c) (hρ : Hρ m T ρ (.slice t x lo hi mx)) (E : Emb P K B m s w) (hk : runOpK P T s c k = true) : OpDone P K B m w k ((execOp ρ ⟨dst, .slice t x lo hi mx, ty, pos, af, gd⟩).run P w) := by
 have q0 : ∀ X v, cx x = some X -> XV T X v -> VR m v (ρ x) := fun X v => hρ x (by simp [Op.operands]) X v
 have q1 : ∀ y, lo = some y -> ∀ X v, cx y = some X -> XV T X v -> VR m v (ρ y) := fun y h X v => hρ y (by subst h; simp [Op.operands]) X v
 have q2 : ∀ y, hi = some y -> ∀ X v, cx y = some X -> XV T X v -> VR m v (ρ y) := fun y h X v => hρ y (by subst h; simp [Op.operands]) X v
 have q3 : ∀ y, mx = some y -> ∀ X v, cx y = some X -> XV T X v -> VR m v (ρ y) := fun y h X v => hρ y (by subst h; simp [Op.operands]) X v
 simp only [compOp] at hc
 split at hc
 ·rename_i e X lo' hi' mx' h1 h2 h3 h4 h5
  split at hc
  ·rename_i i h6
   obtain ⟨h7, hc⟩ := sel_inv hc
   cases hc
   obtain ⟨vx, hx, hk1⟩ := valK_inv (k := fun x => valOK T lo' (fun lo => valOK T hi' (fun hi => valOK T mx' (fun mx => slcK s e i.size x lo hi mx (vK s k))))) hk
   obtain ⟨vl, hl, hk2⟩ := valOK_inv hk1
   obtain ⟨vh, hh, hk3⟩ := valOK_inv hk2
   obtain ⟨vm, hm, hk4⟩ := valOK_inv hk3
   unfold slcK at hk4
   obtain ⟨r, hr, hk5⟩ := optK_inv hk4
   rw [forceV_eq] at hk5
   have hx' : vm.isNone = true ∨ vh.isSome = true := by
    rcases (by simpa using h7 : mx' = none ∨ hi'.isSome = true) with h | h
    ·subst h
     simp only [XO] at hm
     subst hm
     exact .inl rfl
    ·obtain ⟨Y, rfl⟩ := Option.isSome_iff_exists.1 h
     simp only [XO] at hh
     obtain ⟨v, rfl, _⟩ := hh
     exact .inr rfl
   obtain ⟨r', hr', hv⟩ := slc_ok h1 h6 hx' E (q0 X vx h2 hx) (cxo_ok h3 hl q1) (cxo_ok h4 hh q2) (cxo_ok h5 hm q3) hr
   exact OpDone.ofK E ⟨r, hk5, r', by rw [sliceAt_run h1 (by simp)]; exact hr', hv⟩ (e := Instr.sliceAt t (ρ x) (lo.map ρ) (hi.map ρ) (mx.map ρ)) rfl
  ·cases hc
 ·rename_i X lo' hi' mx' h1 h2 h3 h4 h5
  cases hc
  obtain ⟨vx, hx, hk1⟩ := valK_inv (k := fun x => valOK T lo' (fun lo => valOK T hi' (fun hi => valOK T mx' (fun mx => oK s k (evSlcn P t x lo hi mx))))) hk
  obtain ⟨vl, hl, hk2⟩ := valOK_inv hk1
  obtain ⟨vh, hh, hk3⟩ := valOK_inv hk2
  obtain ⟨vm, hm, hk4⟩ := valOK_inv hk3
  obtain ⟨r, hr, hk5⟩ := oK_inv hk4
  unfold evSlcn at hr
  obtain ⟨hf, hr⟩ := sel_inv hr
  simp only [Bool.and_eq_true] at hf
  obtain ⟨h6, h7⟩ := flatR_inv hr
  have e0 := VR.same vx hf.1.1.1 (q0 X vx h2 hx)
  have e1 := VO.flat_same (cxo_ok h3 hl q1) hf.1.1.2
  have e2 := VO.flat_same (cxo_ok h4 hh q2) hf.1.2
  have e3 := VO.flat_same (cxo_ok h5 hm q3) hf.2
  refine OpDone.ofK E ⟨r, hk5, r, ?_, VR.flat r h7⟩ (e := Instr.sliceAt t (ρ x) (lo.map ρ) (hi.map ρ) (mx.map ρ)) rfl
  rw [sliceAt_run h1 (by simp), e0, e1, e2, e3]
  exact pureVal_run h6 w
 ·cases hc
theorem parts_ok {T : BT Value} {ps : Array (Nat × Operand)} {place : Nat -> Option (Nat × Nat)} {xs : List (Nat × Nat × X)} {vs : List (Nat × Nat × Value)} (hc : cparts place ps.toList = some xs) (hx : XPs T xs vs) (hρ : ∀ x ∈ (ps.toList.map (·.2)).toArray, ∀ X v, cx x = some X -> XV T X v -> VR m v (ρ x)) : PR m place vs (ps.toList.map fun (p : Nat × Operand) => (p.1, ρ p.2)) :=
 PR_of hc hx (fun p hp x v h => hρ p.2 (by simp; exact ⟨p.1, by simpa using hp⟩) x v h)
theorem op_lit {t : TypeId} {n : Nat} {ps : Array (Nat × Operand)} (hc : compOp P ⟨dst, .buildSlice t n ps, ty, pos, af, gd⟩ = some c) (hρ : Hρ m T ρ (.buildSlice t n ps)) (E : Emb P K B m s w) (hk : runOpK P T s c k = true) : OpDone P K B m w k ((execOp ρ ⟨dst, .buildSlice t n ps, ty, pos, af, gd⟩).run P w) := by
 simp only [compOp] at hc
 split at hc
 ·rename_i e h1
  split at hc
  ·rename_i i z h2 h3
   split at hc
   ·rename_i xs h4
    obtain ⟨h5, hc⟩ := sel_inv hc
    cases hc
    simp only [Bool.and_eq_true, Nat.ble_eq] at h5
    obtain ⟨⟨⟨h5, h6⟩, h7⟩, h8⟩ := h5
    obtain ⟨vs, hv, hk1⟩ := partsK_inv (k := fun ps => litK s e n (n * i.size) (repeatN z.toList n) ps k) hk
    have := lit_ok h1 h2 h3 (by simpa using h6) h7 h8 E (parts_ok h4 hv hρ) (inN_of h5 hv) hk1
    refine OpDone.of this ?_
    show _ = (do pure (Next.value (<- Instr.buildSlice t n ⟨ps.toList.map fun (p : Nat × Operand) => (p.1, ρ p.2)⟩)))
    rw [<- map_parts]
    rfl
   ·cases hc
  ·cases hc
 ·cases hc
theorem op_build {t : TypeId} {ps : Array (Nat × Operand)} (hc : compOp P ⟨dst, .build t ps, ty, pos, af, gd⟩ = some c) (hρ : Hρ m T ρ (.build t ps)) (E : Emb P K B m s w) (hk : runOpK P T s c k = true) : OpDone P K B m w k ((execOp ρ ⟨dst, .build t ps, ty, pos, af, gd⟩).run P w) := by
 have he : execOp ρ ⟨dst, .build t ps, ty, pos, af, gd⟩ = (do pure (Next.value (<- Instr.build t ⟨ps.toList.map fun (p : Nat × Operand) => (p.1, ρ p.2)⟩))) := by
  rw [<- map_parts]
  rfl
 have hz0 : ∀ {z}, zeroOf P t = some z -> ∃ v, (zeroValue t).run P w = .ok v w /\ v.cells = z := by
  intro z hz
  obtain ⟨i, v, hi, hv, hvz, _, _⟩ := zeroOf_inv hz
  exact ⟨v, by simp [zeroValue, run_typeInfo hi, hv], hvz⟩
 simp only [compOp] at hc
 split at hc
 ·rename_i z fs h1 h2
  split at hc
  ·rename_i xs h4
   obtain ⟨h5, hc⟩ := sel_inv hc
   cases hc
   simp only [Bool.and_eq_true, List.all_eq_true] at h5
   obtain ⟨vs, hv, hk1⟩ := partsK_inv (k := fun ps => buildK z.toList ps (vK s k)) hk
   refine OpDone.ofK E (build_ok (w := w) h1 (fun cs hf => ?_) (parts_ok h4 hv hρ) (inN_of h5.1 hv) hk1) he
   obtain ⟨v, hz, hvz⟩ := hz0 h1
   unfold Instr.build
   rw [Sem.run_bind, hz]
   simp only [Result.andThen_ok]
   rw [Sem.run_bind, run_und h2]
   simp only [Result.andThen_ok]
   rw [Sem.run_bind, fields_run w fs h5.2]
   simp only [Result.andThen_ok]
   rw [place_eq h5.2, hvz, hf]
   rfl
  ·cases hc
 ·rename_i z n e h1 h2
  split at hc
  ·rename_i i h3
   split at hc
   ·rename_i xs h4
    obtain ⟨h5, hc⟩ := sel_inv hc
    cases hc
    obtain ⟨vs, hv, hk1⟩ := partsK_inv (k := fun ps => buildK z.toList ps (vK s k)) hk
    refine OpDone.ofK E (build_ok (w := w) h1 (fun cs hf => ?_) (parts_ok h4 hv hρ) (inN_of h5 hv) hk1) he
    obtain ⟨v, hz, hvz⟩ := hz0 h1
    unfold Instr.build
    rw [Sem.run_bind, hz]
    simp only [Result.andThen_ok]
    rw [Sem.run_bind, run_und h2]
    simp only [Result.andThen_ok]
    rw [Sem.run_bind, run_sizeOf h3]
    simp only [Result.andThen_ok]
    rw [hvz, hf]
    rfl
   ·cases hc
  ·cases hc
 ·cases hc
end
end Go.Proofs.Ytoeklhdklcpllaa.Ev
namespace Go.Proofs.Ytoeklhdklcpllaa.Ev
open Go Go.RowKit
theorem onMap_inv {v : Value} {k : Nat -> Bool} (h : onMap v k = true) : ∃ b, v = .map (some b) /\ k b = true := by
 cases v <;> first | (simp [onMap] at h; done) | skip
 rename_i r
 cases r with
 | none => cases h
 | some b => exact ⟨b, rfl, h⟩
theorem imapK_inv {s : St} {b : Nat} {k : List (Int × Value) -> Bool} (h : imapK s b k = true) : ∃ es, s.h.get b = some (.imap es) /\ k es = true := by
 obtain ⟨o, h1, h2⟩ := objK_inv h
 cases o <;> first | exact ⟨_, h1, h2⟩ | cases h2
theorem intEq_sym (a b : Int) : intEq a b = (b == a) := by rw [intEq_eq]; exact Bool.beq_comm
theorem find_ok {m : Mp} {q : Int} {ik : IntKind} : ∀ {es : List (Int × Value)} {l : List MapEntry} (_ : ER m es l) (i : Nat),
 (findL q es = none -> Instr.findNow (.int ik) (.int .i64 q) l i = some none) /\ (∀ v, findL q es = some v -> ∃ j u, Instr.findNow (.int ik) (.int .i64 q) l i = some (some (j, u)) /\ VR m v u)
 | [], l, h, i => by
  have : l = [] := h
  subst this
  exact ⟨fun _ => rfl, fun v hv => by cases hv⟩
 | e :: es, l, h, i => by
  obtain ⟨f, t, rfl, h2, h3, h4⟩ := h
  obtain ⟨g1, g2⟩ := find_ok (q := q) (ik := ik) h4 (i + 1)
  have hs : Instr.sameNow (.int ik) (.int .i64 q) f.key = some (intEq e.1 q) := by rw [h2, intEq_sym]; simp [Instr.sameNow]
  have hf : findL q (e :: es) = if intEq e.1 q = true then some e.2 else findL q es := by
   show (@Bool.rec (fun _ => Option Value) (findL q es) (some e.2) (intEq e.1 q)) = _
   cases intEq e.1 q <;> rfl
  cases hb : intEq e.1 q with
  | true =>
   rw [hf, hb, if_pos rfl]
   rw [hb] at hs
   refine ⟨fun hn => (by cases hn), fun v hv => ?_⟩
   cases hv
   exact ⟨i, f.val, by simp [Instr.findNow, hs], h3⟩
  | false =>
   rw [hf, hb, if_neg (by decide)]
   rw [hb] at hs
   exact ⟨fun hn => by simp [Instr.findNow, hs, g1 hn], fun v hv => by obtain ⟨j, u, h5, h6⟩ := g2 v hv; exact ⟨j, u, by simp [Instr.findNow, hs, h5], h6⟩⟩
theorem ER.snoc {m : Mp} {q : Int} {v u : Value} {c : Nat} (hv : VR m v u) : ∀ {es : List (Int × Value)} {l : List MapEntry}, ER m es l -> ER m (appE es [(q, v)]) (l ++ [{ key := .int .i64 q, val := u, born := c }])
 | [], l, h => by
  have : l = [] := h
  subst this
  exact ⟨_, [], rfl, rfl, hv, rfl⟩
 | e :: es, l, h => by
  obtain ⟨f, t, rfl, h2, h3, h4⟩ := h
  exact ⟨f, _, rfl, h2, h3, ER.snoc hv h4⟩
theorem run_key {P : Program} {q : TypeId} {ik : IntKind} (hq : P.underlying q = some (.int ik)) (b : Bool) (n : Int) (w : World) : (Instr.checkKey b 10000 q (.int .i64 n)).run P w = .ok () w := by
 have h : ∀ j, (Instr.checkKey b (j + 1) q (.int .i64 n)).run P w = .ok () w := fun j => by
  unfold Instr.checkKey
  simp [run_und hq]
 exact h 9999
theorem run_find {P : Program} {q : TypeId} {ik : IntKind} (hq : P.underlying q = some (.int ik)) {n : Int} {l : List MapEntry} {r : Option (Nat × Value)} (h : Instr.findNow (.int ik) (.int .i64 n) l 0 = some r) (w : World) : (Instr.findKey q (.int .i64 n) l).run P w = .ok r w := by
 simp [Instr.findKey, run_und hq, h]
section
variable {P : Program} {K : Kp} {B : Nat} {m : Mp} {s : St} {w : World} {T : BT Value} {ρ : Operand -> Value} {k : Value -> St -> Bool} {dst : Option Tmp} {ty : TypeId} {pos : String} {af : Array Edge} {gd : Option (Nat × Bool)} {c : COp}
theorem op_mkmap {t : TypeId} {r : Option Operand} (hc : compOp P ⟨dst, .makeMap t r, ty, pos, af, gd⟩ = some c) (E : Emb P K B m s w) (hk : runOpK P T s c k = true) : OpDone P K B m w k ((execOp ρ ⟨dst, .makeMap t r, ty, pos, af, gd⟩).run P w) := by
 cases r with
 | some r => cases hc
 | none =>
  simp only [compOp, Option.some.injEq] at hc
  subst hc
  have hk1 := nOf_inv (k := fun g => newK s (.imap []) (k (.map (some g)))) hk
  have hr : OR P (m.put s.n w.heap.size 0) s.n (.imap []) (.map #[] 0) := ⟨#[], 0, rfl, rfl⟩
  obtain ⟨s', hk2, hE, hB, hle, _⟩ := new_ok E 0 hr hk1
  refine ⟨_, s', hk2, _, _, .value (.map (some w.heap.size)), ?_, trivial, hle, hE, hB, ?_⟩
  ·simp [execOp, Instr.makeMap]
  ·simp only [VR]; exact ⟨_, _, Mp.put_same _ _ _ _, rfl⟩
theorem op_ins {t : TypeId} {x y z : Operand} (hc : compOp P ⟨dst, .insert t x y z, ty, pos, af, gd⟩ = some c) (hρ : Hρ m T ρ (.insert t x y z)) (E : Emb P K B m s w) (hk : runOpK P T s c k = true) : OpDone P K B m w k ((execOp ρ ⟨dst, .insert t x y z, ty, pos, af, gd⟩).run P w) := by
 simp only [compOp] at hc
 split at hc
 ·rename_i q e X Y Z h1 h2 h3 h4
  split at hc
  ·rename_i ik h5
   cases hc
   have hk1 : valK T X (fun m => valK T Y (fun x => valK T Z (fun v => insK s m x v (k undef)))) = true := hk
   obtain ⟨va, ha, hk2⟩ := valK_inv hk1
   obtain ⟨vb, hb, hk3⟩ := valK_inv hk2
   obtain ⟨vd, hd, hk4⟩ := valK_inv hk3
   have ra := hρ x (by simp [Op.operands]) X va h2 ha
   have rb := hρ y (by simp [Op.operands]) Y vb h3 hb
   have rd := hρ z (by simp [Op.operands]) Z vd h4 hd
   obtain ⟨b, rfl, hk5⟩ := onMap_inv hk4
   rcases onInt_inv hk5 with ⟨i, n, rfl, hk6⟩ | hf
   rotate_left
   ·cases hf
   obtain ⟨h6, hk7⟩ := ifB_true hk6
   have := kindEq_eq h6
   subst this
   obtain ⟨es, h7, hk8⟩ := imapK_inv hk7
   simp only [VR] at ra rb
   obtain ⟨gx, gy, hm, ea⟩ := ra
   obtain ⟨o', ho, a, cl, rfl, her⟩ := E.obj b gx gy _ hm h7
   cases hfl : findL n es with
   | some v => rw [hfl] at hk8; cases hk8
   | none =>
    rw [hfl] at hk8
    obtain ⟨h', hk9, _, hg⟩ := storeK_inv hk8
    have hfn := (find_ok (ik := ik) her 0).1 hfl
    have hlow : B <= gx /\ gx < w.heap.size := ⟨E.own hm h7 (by simp), (E.low b gx gy hm).2⟩
    have hE : Emb P K B m ⟨h', s.n⟩ { w with heap := w.heap.setIfInBounds gx (.map (a.push { key := .int .i64 n, val := ρ z, born := cl }) (cl + 1)) } := by
     refine E.put (o' := .map (a.push { key := .int .i64 n, val := ρ z, born := cl }) (cl + 1)) hm h7 (by simp) hg (by simp) (by simp [hlow.2]) (fun j hj => by simp [Array.getElem?_setIfInBounds, Ne.symm hj]) ⟨_, _, rfl, ?_⟩
     rw [Array.toList_push]
     exact ER.snoc rd her
    refine ⟨undef, _, hk9, m, _, .skip, ?_, trivial, Mp.le_refl m, hE, below_of rfl rfl rfl (by simp) (fun j hj => by simp [Array.getElem?_setIfInBounds]; intro e; omega), VR.flat undef rfl⟩
    simp [execOp, ea, rb, Instr.mapUpdate, run_und h1, MapKept.run_getObj_map ho, run_key h5, run_find h5 hfn, MapKept.run_setObj_map _ ho]
  ·cases hc
 ·cases hc
theorem op_look {t : TypeId} {x y : Operand} {ok : Bool} (hc : compOp P ⟨dst, .lookup t x y ok, ty, pos, af, gd⟩ = some c) (hρ : Hρ m T ρ (.lookup t x y ok)) (E : Emb P K B m s w) (hk : runOpK P T s c k = true) : OpDone P K B m w k ((execOp ρ ⟨dst, .lookup t x y ok, ty, pos, af, gd⟩).run P w) := by
 simp only [compOp] at hc
 split at hc
 ·rename_i q e X Y h1 h2 h3
  split at hc
  ·rename_i ik inf h5 h6
   split at hc
   ·rename_i z hz
    obtain ⟨hf, hc⟩ := sel_inv hc
    cases hc
    have hk1 : valK T X (fun m => valK T Y (fun x => lookK s z ok m x k)) = true := hk
    obtain ⟨va, ha, hk2⟩ := valK_inv hk1
    obtain ⟨vb, hb, hk3⟩ := valK_inv hk2
    have ra := hρ x (by simp [Op.operands]) X va h2 ha
    have rb := hρ y (by simp [Op.operands]) Y vb h3 hb
    obtain ⟨b, rfl, hk5⟩ := onMap_inv hk3
    rcases onInt_inv hk5 with ⟨i, n, rfl, hk6⟩ | hf
    rotate_left
    ·cases hf
    obtain ⟨h6', hk7⟩ := ifB_true hk6
    have := kindEq_eq h6'
    subst this
    obtain ⟨es, h7, hk8⟩ := imapK_inv hk7
    simp only [VR] at ra rb
    obtain ⟨gx, gy, hm, ea⟩ := ra
    obtain ⟨o', ho, a, cl, rfl, her⟩ := E.obj b gx gy _ hm h7
    cases hfl : findL n es with
    | none =>
     rw [hfl] at hk8
     have hfn := (find_ok (ik := ik) her 0).1 hfl
     refine OpDone.keep E hk8 (u := lookV ok z false) ?_ ?_
     ·cases ok
      ·exact VR.flat z hf
      ·show VR m (.tuple #[z, .bool false]) (.tuple #[z, .bool false])
       exact VR.flat _ (by simp [flat, flatA, flatL, hf])
     ·cases ok <;> simp [execOp, ea, rb, Instr.lookup, run_und h1, MapKept.run_getObj_map ho, run_key h5, run_find h5 hfn, run_zero h6 hz, lookV]
    | some v =>
     rw [hfl] at hk8
     obtain ⟨j, u, hfn, hvu⟩ := (find_ok (ik := ik) her 0).2 v hfl
     refine OpDone.keep E hk8 (u := lookV ok u true) ?_ ?_
     ·cases ok
      ·exact hvu
      ·show VR m (.tuple #[v, .bool true]) (.tuple #[u, .bool true])
       simp only [VR, AR]
       exact ⟨_, rfl, _, rfl, u, [.bool true], rfl, hvu, .bool true, [], rfl, by simp only [VR], rfl⟩
     ·cases ok <;> simp [execOp, ea, rb, Instr.lookup, run_und h1, MapKept.run_getObj_map ho, run_key h5, run_find h5 hfn, lookV]
   ·cases hc
  ·cases hc
 ·cases hc
end
end Go.Proofs.Ytoeklhdklcpllaa.Ev
namespace Go.Proofs.Ytoeklhdklcpllaa.Ev
open Go Go.RowKit
section
variable {P : Program} {K : Kp} {B : Nat} {m : Mp} {s : St} {w : World} {T : BT Value} {ρ : Operand -> Value} {k : Value -> St -> Bool} {dst : Option Tmp} {ty : TypeId} {pos : String} {af : Array Edge} {gd : Option (Nat × Bool)} {c : COp}
theorem exec_bi (b : Builtin) (args : Array Operand) (ts : Array TypeId) : ∃ cs, execOp ρ ⟨dst, .call ⟨.builtin b, args, ts⟩, ty, pos, af, gd⟩ = builtin b ts ty cs ⟨args.toList.map ρ⟩ :=
 ⟨args.map fun | .const _ => true | _ => false, by rw [<- map_list]; rfl⟩
theorem get0 {ts : Array TypeId} {d : TypeDesc} {j : Nat} (h : (ts[j]?).bind P.underlying = some d) : ∃ t0, ts[j]? = some t0 /\ P.underlying t0 = some d := by
 cases h0 : ts[j]? with
 | none => rw [h0] at h; cases h
 | some t0 => rw [h0] at h; exact ⟨t0, rfl, h⟩
theorem bi_done (E : Emb P K B m s w) {b : Builtin} {args : Array Operand} {ts : Array TypeId} {xs : List X} (hb : ∀ cs l, builtin b ts ty cs l = builtin b ts ty #[] l) (hxs : cxs args.toList = some xs) (hρ : Hρ m T ρ (.call ⟨.builtin b, args, ts⟩))
 (hk : valsK T xs (fun l => oK s k (evBi P b ts ty l)) = true) : OpDone P K B m w k ((execOp ρ ⟨dst, .call ⟨.builtin b, args, ts⟩, ty, pos, af, gd⟩).run P w) := by
 obtain ⟨vs, hv, hk1⟩ := valsK_inv hk
 obtain ⟨r, hr, hk2⟩ := oK_inv hk1
 unfold evBi at hr
 obtain ⟨hf, hr⟩ := sel_inv hr
 obtain ⟨h1, h2⟩ := flatR_inv hr
 have e1 := LR.same vs hf (cxs_ok hxs hv (fun x hx X v => hρ x (by simp only [Op.operands, Call.operands]; simpa using hx) X v))
 obtain ⟨cs, e2⟩ := exec_bi (ρ := ρ) (dst := dst) (ty := ty) (pos := pos) (af := af) (gd := gd) b args ts
 have h3 : pureVal P (builtin b ts ty #[] ⟨vs⟩) = some (.value r) := by
  cases hp : pureVal P (builtin b ts ty #[] ⟨vs⟩) with
  | none => rw [hp] at h1; cases h1
  | some n =>
   rw [hp] at h1
   cases n with
   | value v => simp only [nextV, Option.some.injEq] at h1; rw [h1]
   | _ => cases h1
 refine OpDone.keep E hk2 (VR.flat r h2) ?_
 rw [e2, e1, hb]
 exact pureVal_run h3 w
theorem OpDone.bi {e : Sem Value} {b : Builtin} {args : Array Operand} {ts : Array TypeId} (h : ∃ v s', k v s' = true /\ ∃ m' w' u, e.run P w = .ok u w' /\ m.le m' /\ Emb P K B m' s' w' /\ Below B w w' /\ VR m' v u)
 (he : ∀ cs, builtin b ts ty cs ⟨args.toList.map ρ⟩ = (do pure (.value (<- e)))) : OpDone P K B m w k ((execOp ρ ⟨dst, .call ⟨.builtin b, args, ts⟩, ty, pos, af, gd⟩).run P w) := by
 obtain ⟨cs, e2⟩ := exec_bi (ρ := ρ) (dst := dst) (ty := ty) (pos := pos) (af := af) (gd := gd) b args ts
 exact OpDone.of h (by rw [e2, he])
theorem op_bi {b : Builtin} {args : Array Operand} {ts : Array TypeId} (hc : compOp P ⟨dst, .call ⟨.builtin b, args, ts⟩, ty, pos, af, gd⟩ = some c) (hρ : Hρ m T ρ (.call ⟨.builtin b, args, ts⟩)) (E : Emb P K B m s w) (hk : runOpK P T s c k = true) :
 OpDone P K B m w k ((execOp ρ ⟨dst, .call ⟨.builtin b, args, ts⟩, ty, pos, af, gd⟩).run P w) := by
 have ho : ∀ x ∈ args.toList, ∀ X v, cx x = some X -> XV T X v -> VR m v (ρ x) := fun x hx X v => hρ x (by simp only [Op.operands, Call.operands]; simpa using hx) X v
 simp only [compOp] at hc
 split at hc
 ·-- len
  rename_i x hl
  split at hc
  ·rename_i e h1
   obtain ⟨X, h2, rfl⟩ := Option.map_eq_some_iff.1 hc
   obtain ⟨t0, h3, h4⟩ := get0 h1
   obtain ⟨v, hv, hk1⟩ := valK_inv (k := fun x => onSlice x (fun n _ => k (.int .i64 (.ofNat n)) s) (fun _ _ n _ => k (.int .i64 (.ofNat n)) s)) hk
   obtain ⟨r, hk2, hr, hv2⟩ := len_ok (w := w) (ty := ty) h3 h4 (ho x (by rw [hl]; simp) X v h2 hv) hk1
   exact OpDone.bi (e := Builtin.len_ ts ty #[ρ x]) ⟨r, s, hk2, m, w, r, hr, Mp.le_refl m, E, Below.refl B w, hv2⟩ (fun cs => by rw [hl]; rfl)
  ·rename_i h1
   obtain ⟨X, h2, rfl⟩ := Option.map_eq_some_iff.1 hc
   exact bi_done E (fun cs l => rfl) (xs := [X]) (by rw [hl]; simp [cxs, h2]) hρ hk
  ·cases hc
 ·-- cap
  rename_i x hl
  split at hc
  ·rename_i e h1
   obtain ⟨X, h2, rfl⟩ := Option.map_eq_some_iff.1 hc
   obtain ⟨t0, h3, h4⟩ := get0 h1
   obtain ⟨v, hv, hk1⟩ := valK_inv (k := fun x => oK s k (evCap x)) hk
   obtain ⟨r, hr, hk2⟩ := oK_inv hk1
   obtain ⟨hr2, hv2⟩ := cap_ok (w := w) (ty := ty) h3 h4 (ho x (by rw [hl]; simp) X v h2 hv) hr
   exact OpDone.bi (e := Builtin.cap_ ts ty #[ρ x]) ⟨r, s, hk2, m, w, r, hr2, Mp.le_refl m, E, Below.refl B w, hv2⟩ (fun cs => by rw [hl]; rfl)
  ·cases hc
 ·-- append
  rename_i x y hl
  split at hc
  ·rename_i e d X Y h1 h2 h3 h4
   split at hc
   ·rename_i i z h5 h6
    obtain ⟨h7, hc⟩ := sel_inv hc
    simp only [Bool.and_eq_true, Bool.not_eq_true'] at h7
    obtain ⟨t0, g1, g2⟩ := get0 h1
    obtain ⟨t1, g3, g4⟩ := get0 h2
    have hz : z.size = i.size := by simpa using h7.1
    have h0 : i.size ≠ 0 := by
     intro e
     have := h7.2
     rw [e] at this
     cases this
    have go : ∀ ints, ((ints = true /\ ∃ q, d = .int q) ∨ (ints = false /\ ∃ q, d = .slice q)) -> runOpK P T s (.app e i.size i.bytes z.toList ints X Y) k = true -> OpDone P K B m w k ((execOp ρ ⟨dst, .call ⟨.builtin .append, args, ts⟩, ty, pos, af, gd⟩).run P w) := by
     intro ints hd hk
     obtain ⟨v, hv, hk1⟩ := valK_inv (k := fun x => valK T Y (fun y => appK s e i.size i.bytes z.toList ints x y k)) hk
     obtain ⟨u, hu, hk2⟩ := valK_inv hk1
     exact OpDone.bi (e := Builtin.append_ ts ty #[ρ x, ρ y]) (app_ok g1 g2 g3 g4 hd h5 h6 hz h0 E (ho x (by rw [hl]; simp) X v h3 hv) (ho y (by rw [hl]; simp) Y u h4 hu) hk2) (fun cs => by rw [hl]; rfl)
    split at hc
    ·cases hc; exact go true (.inl ⟨rfl, _, rfl⟩) hk
    ·cases hc; exact go false (.inr ⟨rfl, _, rfl⟩) hk
    ·cases hc
   ·cases hc
  ·cases hc
 ·-- copy
  rename_i x y hl
  split at hc
  ·rename_i e X Y h1 h3 h4
   obtain ⟨i, h5, rfl⟩ := Option.map_eq_some_iff.1 hc
   obtain ⟨t0, g1, g2⟩ := get0 h1
   obtain ⟨v, hv, hk1⟩ := valK_inv (k := fun x => valK T Y (fun y => copyK s i.size x y k)) hk
   obtain ⟨u, hu, hk2⟩ := valK_inv hk1
   obtain ⟨r, s', hk3, w', hr, hE, hB, hv2⟩ := copy_ok (ty := ty) g1 g2 h5 E (ho x (by rw [hl]; simp) X v h3 hv) (ho y (by rw [hl]; simp) Y u h4 hu) hk2
   exact OpDone.bi (e := Builtin.copy_ ts ty #[ρ x, ρ y]) ⟨r, s', hk3, m, w', r, hr, Mp.le_refl m, hE, hB, hv2⟩ (fun cs => by rw [hl]; rfl)
  ·cases hc
 ·-- clear
  rename_i x hl
  split at hc
  ·rename_i e X h1 h3
   split at hc
   ·rename_i i z h5 h6
    obtain ⟨h7, hc⟩ := sel_inv hc
    cases hc
    obtain ⟨t0, g1, g2⟩ := get0 h1
    obtain ⟨v, hv, hk1⟩ := valK_inv (k := fun x => clearK s i.size z.toList x k) hk
    obtain ⟨s', hk3, w', hr, hE, hB⟩ := clear_ok (ty := ty) g1 g2 h5 h6 (by simpa using h7) E (ho x (by rw [hl]; simp) X v h3 hv) hk1
    exact OpDone.bi (e := Builtin.clear_ ts ty #[ρ x]) ⟨_, s', hk3, m, w', _, hr, Mp.le_refl m, hE, hB, VR.flat _ rfl⟩ (fun cs => by rw [hl]; rfl)
   ·cases hc
  ·cases hc
 ·rename_i hn1
  obtain ⟨xs, h2, rfl⟩ := Option.map_eq_some_iff.1 hc
  exact bi_done E (fun cs l => rfl) h2 hρ hk
 ·obtain ⟨xs, h2, rfl⟩ := Option.map_eq_some_iff.1 hc
  exact bi_done E (fun cs l => rfl) h2 hρ hk
 ·cases hc
def noCall : Op -> Bool
 | .call { callee := .value _, .. } => false
 | _ => true
theorem op_all {op : Op} (hn : noCall op = true) (hc : compOp P ⟨dst, op, ty, pos, af, gd⟩ = some c) (hρ : Hρ m T ρ op) (E : Emb P K B m s w) (hk : runOpK P T s c k = true) : OpDone P K B m w k ((execOp ρ ⟨dst, op, ty, pos, af, gd⟩).run P w) := by
 cases op with
 | move x => exact op_move (.inl rfl) hc hρ E hk
 | assign x => exact op_move (.inr rfl) hc hρ E hk
 | pick => exact op_pick hc hρ E hk
 | alloc => exact op_alloc hc E hk
 | box => exact op_box hc hρ E hk
 | build => exact op_build hc hρ E hk
 | buildSlice => exact op_lit hc hρ E hk
 | load => exact op_load hc hρ E hk
 | store => exact op_store hc hρ E hk
 | nilCheck => exact op_nilc hc hρ E hk
 | binOp => exact op_bin hc hρ E hk
 | unOp => exact op_un hc hρ E hk
 | convert => exact op_conv hc hρ E hk
 | makeInterface => exact op_mini hc hρ E hk
 | makeFunc fn => cases fn with
  | func f => exact op_fn hc hρ E hk
  | _ => cases hc
 | makeSlice => exact op_mks hc hρ E hk
 | slice => exact op_slc hc hρ E hk
 | fieldAddr => exact op_fa hc hρ E hk
 | field => exact op_fld hc hρ E hk
 | indexAddr => exact op_ia hc hρ E hk
 | index => exact op_ix hc hρ E hk
 | typeAssert => exact op_tas hc hρ E hk
 | extract => exact op_ext hc hρ E hk
 | makeMap => exact op_mkmap hc E hk
 | insert => exact op_ins hc hρ E hk
 | lookup => exact op_look hc hρ E hk
 | call cl =>
  obtain ⟨ce, args, ts⟩ := cl
  cases ce with
  | builtin b => exact op_bi hc hρ E hk
  | value f => cases hn
  | invoke => cases hc
 | _ => cases hc
end
end Go.Proofs.Ytoeklhdklcpllaa.Ev
namespace Go.Proofs.Ytoeklhdklcpllaa.Ev
open Go Go.RowKit
def Fr (r : Option Nat) : Fence := { Fence.wide with round := r }
theorem callsIn_Fr {r : Option Nat} {n : Nat} {P : Program} {f : FuncId} {args : Array Value} {w : World} {R : Ending -> World -> Prop} (h : CallsIn Fence.wide 0 P f args w R) : CallsIn (Fr r) n P f args w R :=
 ⟨trivial, fun cs _ => h.2 cs (room_wide _)⟩
def Ends (P : Program) (K : Kp) (B : Nat) (m : Mp) (w : World) (k : Value -> St -> Bool) : Ending -> World -> Prop
 | .returned u, w' => ∃ v s' m', k v s' = true /\ m.le m' /\ Emb P K B m' s' w' /\ Below B w w' /\ VR m' v u
 | _, _ => False
structure CallOk (P : Program) (K : Kp) (B : Nat) (O : OK) : Prop where
 call : ∀ {f : FuncId} {vs : List Value} {s : St} {k : Value -> St -> Bool}, O.call f vs s k = true -> ∀ {m : Mp} {w : World} {us : List Value}, Emb P K B m s w -> LR m vs us ->
  (∀ w, (callFunc f ⟨us⟩).run P w = .ok (.enter f ⟨us⟩) w) /\ CallsIn Fence.wide 0 P f ⟨us⟩ w (Ends P K B m w k)
 round : ∀ {l : Nat} {vs : List Value} {s : St} {k : Value -> St -> Bool}, roundK O l vs s k = true -> ∀ {m : Mp} {w : World} {us : List Value} {x y : Nat}, m l = some (x, y) -> Emb P K B m s w -> LR m vs us ->
  ∃ f tmps assign body, (Instr.yield x ⟨us⟩).run P w = .ok (.round x f tmps assign body) w /\ ∀ r n, RoundIn (Fr r) n P x f tmps assign body w (Ends P K B m w k)
theorem eval_ok {m : Mp} {T : BT Value} {a : Act} (hT : TR m T a.tmps) {x : Operand} {X : X} {v : Value} (hx : cx x = some X) (hv : XV T X v) : VR m v (a.eval x) := by
 cases x with
 | tmp t =>
  simp only [cx, Option.some.injEq] at hx
  subst hx
  obtain ⟨v', h1, h2⟩ := hT t v hv
  have : a.eval (.tmp t) = v' := by simp [Act.eval, Array.getD_eq_getD_getElem?, h1]
  rw [this]
  exact h2
 | const u =>
  simp only [cx] at hx
  obtain ⟨hf, hx⟩ := sel_inv hx
  cases hx
  simp only [XV] at hv
  subst hv
  exact VR.flat v hf
 | func f =>
  simp only [cx, Option.some.injEq] at hx
  subst hx
  simp only [XV] at hv
  subst hv
  exact VR.flat _ (by simp [flat, flatA, flatL])
 | global g => cases hx
theorem eval_Hρ {m : Mp} {T : BT Value} {a : Act} (hT : TR m T a.tmps) (op : Op) : Hρ m T a.eval op := fun _ _ _ _ hx hv => eval_ok hT hx hv
theorem put_ok {m : Mp} {T : BT Value} {a : Act} (hT : TR m T a.tmps) {d : Option Nat} {v u : Value} {k : BT Value -> Bool} (hv : VR m v u) (hk : putTK T d v k = true) : ∃ T', k T' = true /\ TR m T' (a.put d u).tmps /\ (a.put d u).defers = a.defers := by
 cases d with
 | none => exact ⟨T, hk, hT, rfl⟩
 | some d =>
  obtain ⟨T', hk, hd, hg⟩ := updK_inv (k := k) hk
  refine ⟨T', hk, fun t x ht => ?_, rfl⟩
  obtain ⟨x0, hx0⟩ := Option.isSome_iff_exists.1 hd
  obtain ⟨x1, h1, _⟩ := hT d x0 hx0
  have hlt : d < a.tmps.size := (Array.getElem?_eq_some_iff.1 h1).1
  rw [hg] at ht
  by_cases h : t = d
  ·subst h
   rw [if_pos rfl] at ht
   cases ht
   exact ⟨u, by simp [Act.put, hlt], hv⟩
  ·rw [if_neg h] at ht
   obtain ⟨x', h2, h3⟩ := hT t x ht
   exact ⟨x', by simp only [Act.put]; rw [Array.getElem?_setIfInBounds_ne (by omega)]; exact h2, h3⟩
theorem runAny_inv {P : Program} {O : OK} {T : BT Value} {s : St} {c : COp} {k : Value -> St -> Bool} (h : runAnyK P O T s c k = true) : runOpK P T s c k = true ∨ ∃ f l, c = .call f l /\ valK T f (fun f => valsK T l (fun l => callVK O s l f k)) = true := by
 cases c <;> first | exact .inl h | exact .inr ⟨_, _, rfl, h⟩
theorem appL_eq (a b : List Value) : appL a b = a ++ b := by
 induction a with
 | nil => rfl
 | cons v l ih => show v :: appL l b = _; rw [ih]; rfl
section
variable {P : Program} {K : Kp} {B : Nat} {m : Mp} {s : St} {w : World} {T : BT Value} {dst : Option Tmp} {ty : TypeId} {pos : String} {af : Array Edge} {gd : Option (Nat × Bool)} {c : COp}
theorem no_call {op : Op} {X : Ev.X} {l : List Ev.X} (hn : noCall op = true) (hc : compOp P ⟨dst, op, ty, pos, af, gd⟩ = some (.call X l)) : False := by
 have hm : ∀ {α : Type} {x : Option α} {f : α -> COp}, (∀ a, f a ≠ .call X l) -> x.map f = some (.call X l) -> False := by
  intro α x f hf h
  obtain ⟨a, _, e⟩ := Option.map_eq_some_iff.1 h
  exact hf a e
 have hs : ∀ {b : Bool} {c : COp}, c ≠ .call X l -> sel b (some c) none = some (.call X l) -> False := by
  intro b c hc h
  obtain ⟨_, h⟩ := sel_inv h
  exact hc (Option.some.inj h)
 have hs2 : ∀ {b : Bool} {c : COp}, c ≠ .call X l -> sel b none (some c) = some (.call X l) -> False := by
  intro b c hc h
  cases b with
  | true => cases h
  | false => exact hc (Option.some.inj h)
 cases op with
 | call cl =>
  obtain ⟨ce, args, ts⟩ := cl
  cases ce with
  | value f => cases hn
  | invoke => cases hc
  | builtin b =>
   simp only [compOp] at hc
   repeat' split at hc
   all_goals first | exact hm (by simp) hc | exact hs (by simp) hc | (cases hc; done) | (obtain ⟨_, hc⟩ := sel_inv hc; cases hc; done)
 | makeFunc fn => cases fn with
  | func f =>
   simp only [compOp] at hc
   repeat' split at hc
   all_goals cases hc
  | _ => cases hc
 | makeMap t r => cases r <;> cases hc
 | _ =>
  simp only [compOp] at hc
  repeat' split at hc
  all_goals first | exact hm (by simp) hc | exact hs (by simp) hc | exact hs2 (by simp) hc | (cases hc; done)
def Then (P : Program) (K : Kp) (B : Nat) (m : Mp) (a : Act) (w : World) (k : BT Value -> St -> Bool) (a' : Act) (w' : World) : Prop :=
 ∃ T' s' m', k T' s' = true /\ m.le m' /\ Emb P K B m' s' w' /\ TR m' T' a'.tmps /\ a'.defers = a.defers /\ Below B w w'
def Gives (P : Program) (K : Kp) (B : Nat) (m : Mp) (a : Act) (w : World) (d : Option Tmp) (k : Value -> St -> Bool) (a' : Act) (w' : World) : Prop :=
 ∃ v u s' m', k v s' = true /\ m.le m' /\ Emb P K B m' s' w' /\ Below B w w' /\ VR m' v u /\ a' = a.put d u
theorem oper_val {O : OK} (hO : CallOk P K B O) {r : Option Nat} {n : Nat} {o : Oper} {a : Act} {k : Value -> St -> Bool} {Q : Exit -> Act -> World -> Prop} (hc : compOp P o = some c) (E : Emb P K B m s w) (hρ : Hρ m T a.eval o.op)
 (hk : runAnyK P O T s c k = true) : o.wpIn (Fr r) n P a w (Gives P K B m a w o.dst k) Q := by
 obtain ⟨dst, op, ty, pos, af, gd⟩ := o
 have hdef : ∀ cl, op ≠ .defer cl := by
  rintro cl rfl
  cases hc
 refine ⟨fun _ _ => trivial, ?_⟩
 have hsem : Oper.semAt (Fr r).round a.eval ⟨dst, op, ty, pos, af, gd⟩ = execOp a.eval ⟨dst, op, ty, pos, af, gd⟩ := Oper.semAt_eq _ _ _ hdef
 rw [hsem]
 have fin : ∀ {v u : Value} {s' : St} {m' : Mp} {w' : World}, k v s' = true -> m.le m' -> Emb P K B m' s' w' -> Below B w w' -> VR m' v u -> Gives P K B m a w dst k (a.put dst u) w' := by
  intro v u s' m' w' hk hle hE hB hv
  exact ⟨v, u, s', m', hk, hle, hE, hB, hv, rfl⟩
 by_cases hn : noCall op = true
 ·rcases runAny_inv hk with hk | ⟨X, l, rfl, _⟩
  ·obtain ⟨v, s', hk, m', w', nx, hr, hfi, hle, hE, hB, hv⟩ := op_all hn hc hρ E hk
   rw [hr]
   cases nx with
   | value u => exact fin hk hle hE hB hv
   | skip => exact fin hk hle hE hB hv
   | _ => exact hfi.elim
  ·exact (no_call hn hc).elim
 ·have : ∃ f args ts, op = .call ⟨.value f, args, ts⟩ := by
   cases op with
   | call cl =>
    obtain ⟨ce, args, ts⟩ := cl
    cases ce with
    | value f => exact ⟨f, args, ts, rfl⟩
    | _ => exact absurd rfl hn
   | _ => exact absurd rfl hn
  obtain ⟨f, args, ts, rfl⟩ := this
  simp only [compOp] at hc
  split at hc
  ·rename_i X l h1 h2
   cases hc
   have hk0 : valK T X (fun f => valsK T l (fun l => callVK O s l f k)) = true := hk
   obtain ⟨fv, hf, hk1⟩ := valK_inv hk0
   obtain ⟨vs, hv, hk2⟩ := valsK_inv hk1
   have ef := hρ f (by simp [Op.operands, Call.operands]) X fv h1 hf
   have ea := cxs_ok h2 hv (ρ := a.eval) (fun x hx X v => hρ x (by simp only [Op.operands, Call.operands]; exact Array.mem_append.2 (.inr (by simpa using hx))) X v)
   have ex : execOp a.eval ⟨dst, .call ⟨.value f, args, ts⟩, ty, pos, af, gd⟩ = (do let d <- Deferred.ofValue (a.eval f) ⟨args.toList.map a.eval⟩; invoke d.target d.args) := by
    rw [<- map_list]
    rfl
   have ends : ∀ {e : Ending} {w' : World}, Ends P K B m w k e w' -> (match (generalizing := false) e, w' with
    | .returned v, w'' => Gives P K B m a w dst k (a.put dst v) w''
    | .panicked chain, w'' => Q (.panic chain) a w''
    | .outgrown, _ => LetsOut Q) := by
    intro e w' h
    cases e with
    | returned u =>
     obtain ⟨v, s', m', hk, hle, hE, hB, hv⟩ := h
     exact fin hk hle hE hB hv
    | panicked => exact h.elim
    | outgrown => exact h.elim
   rcases onFunc_inv hk2 with ⟨g, p, cc, rfl, hk3⟩ | ⟨q, p, cc, rfl, hk3⟩
   ·simp only [VR, AR] at ef
    obtain ⟨p', c', hfe, ⟨pl, rfl, hp⟩, ⟨cl, rfl, hcl⟩⟩ := ef
    rw [appL_eq, appL_eq] at hk3
    obtain ⟨hcf, hcall⟩ := hO.call hk3 E (hp.append (ea.append hcl))
    rw [ex, hfe]
    have : (do let d <- Deferred.ofValue (.func (.func g) ⟨pl⟩ ⟨cl⟩) ⟨args.toList.map a.eval⟩; invoke d.target d.args : Sem Next).run P w = .ok (.enter g ⟨pl ++ (args.toList.map a.eval ++ cl)⟩) w := by
     have := hcf w
     show (callFunc g ((⟨pl⟩ ++ ⟨args.toList.map a.eval⟩ : Array Value) ++ ⟨cl⟩)).run P w = _
     have e : ((⟨pl⟩ ++ ⟨args.toList.map a.eval⟩ : Array Value) ++ ⟨cl⟩) = ⟨pl ++ (args.toList.map a.eval ++ cl)⟩ := by
      apply Array.ext'
      simp
     rw [e]
     exact this
    rw [this, Oper.uponIn_enter]
    refine ⟨fun h => (by cases h), CallsIn.mono (callsIn_Fr hcall) (fun e w' h => ?_)⟩
    have := ends h
    cases e <;> exact this
   ·simp only [VR, AR] at ef
    obtain ⟨x, y, p', c', hm, hfe, ⟨pl, rfl, hp⟩, ⟨cl, rfl, hcl⟩⟩ := ef
    rw [appL_eq] at hk3
    obtain ⟨fn, tmps, assign, body, hy, hround⟩ := hO.round hk3 hm E (hp.append ea)
    rw [ex, hfe]
    have : (do let d <- Deferred.ofValue (.func (.yield x) ⟨pl⟩ ⟨cl⟩) ⟨args.toList.map a.eval⟩; invoke d.target d.args : Sem Next).run P w = .ok (.round x fn tmps assign body) w := by
     show (Instr.yield x (⟨pl⟩ ++ ⟨args.toList.map a.eval⟩ : Array Value)).run P w = _
     have e : (⟨pl⟩ ++ ⟨args.toList.map a.eval⟩ : Array Value) = ⟨pl ++ args.toList.map a.eval⟩ := by
      apply Array.ext'
      simp
     rw [e]
     exact hy
    rw [this, Oper.uponIn_round]
    refine ⟨fun h => (by cases h), RoundIn.mono (hround r (n - 1)) (fun e w' h => ?_)⟩
    have := ends h
    cases e <;> exact this
  ·cases hc
theorem oper_ok {O : OK} (hO : CallOk P K B O) {r : Option Nat} {n : Nat} {o : Oper} {a : Act} {k : BT Value -> St -> Bool} {Q : Exit -> Act -> World -> Prop} (hc : compOp P o = some c) (E : Emb P K B m s w) (hT : TR m T a.tmps)
 (hk : runAnyK P O T s c (fun v s' => putTK T o.dst v (fun T' => k T' s')) = true) : o.wpIn (Fr r) n P a w (Then P K B m a w k) Q := by
 refine Oper.wpIn_mono ?_ (oper_val hO hc E (eval_Hρ hT o.op) hk)
 rintro a' w' ⟨v, u, s', m', hk, hle, hE, hB, hv, rfl⟩
 obtain ⟨T', h1, h2, h3⟩ := put_ok (hT.mono hle) hv hk
 exact ⟨T', s', m', h1, hle, hE, h2, h3, hB⟩
end
end Go.Proofs.Ytoeklhdklcpllaa.Ev
namespace Go.Proofs.Ytoeklhdklcpllaa.Ev
open Go Go.RowKit
theorem Mp.le.trans {a b c : Mp} (h : a.le b) (k : b.le c) : a.le c := Mp.le_trans h k
theorem VR.bool_back {m : Mp} {v : Value} {b : Bool} (h : VR m v (.bool b)) : v = .bool b := by
 cases v with
 | func f p c => cases f <;> simp [VR] at h
 | pointer a => rcases a with _ | ⟨_, _, _ | _⟩ <;> simp [VR] at h
 | slice a n c => rcases a with _ | ⟨_, _, _ | _⟩ <;> simp [VR] at h
 | map a => cases a <;> simp [VR] at h
 | chan a => cases a <;> simp [VR] at h
 | _ => simp_all [VR]
section
variable {P : Program} {K : Kp} {B : Nat} {m : Mp} {s : St} {w : World} {T : BT Value}
theorem wantsK_inv {g : Option (Nat × Bool)} {y n : Bool} {ops : Array Oper} {o : Oper} {i : Nat} {a : Act} (hT : TR m T a.tmps) (hg : (o.guard = none /\ g = none) ∨ ∃ j w t, o.guard = some (j, w) /\ (ops[j]?).bind (·.dst) = some t /\ g = some (t, w)) (hk : wantsK T g y n = true) :
 (Region.wanted o (yielded ops a.tmps) = true /\ y = true) ∨ (Region.wanted o (yielded ops a.tmps) = false /\ n = true) := by
 rcases hg with ⟨h1, rfl⟩ | ⟨j, w, t, h1, h2, rfl⟩
 ·exact .inl ⟨by simp [Region.wanted, h1], hk⟩
 ·have hk0 : getK T t (fun v => onBoolZ v (fun b => @Bool.rec (fun _ => Bool) (@Bool.rec (fun _ => Bool) y n w) (@Bool.rec (fun _ => Bool) n y w) b) n) = true := hk
  obtain ⟨v, hv, hk1⟩ := getK_inv hk0
  obtain ⟨u, hu, hvu⟩ := hT t v hv
  have hy : yielded ops a.tmps j = match u with | .bool b => some b | _ => none := by
   unfold yielded
   rw [h2]
   simp only [Option.bind_some, hu]
   cases u <;> rfl
  rcases onBoolZ_inv hk1 with ⟨b, rfl, hk2⟩ | ⟨hb, hk2⟩
  ·have : u = .bool b := by simpa only [VR] using hvu
   subst this
   simp only at hy
   cases b <;> cases w <;> first | exact .inl ⟨by simp [Region.wanted, h1, hy], hk2⟩ | exact .inr ⟨by simp [Region.wanted, h1, hy], hk2⟩
  ·refine .inr ⟨?_, hk2⟩
   have : yielded ops a.tmps j = none := by
    rw [hy]
    cases u with
    | bool b => exact absurd hvu.bool_back (hb b)
    | _ => rfl
   simp [Region.wanted, h1, this]
theorem compItem_inv {ops : Array Oper} {i : Nat} {x : Item} (h : compItem P ops i = some x) :
 ∃ o, ops[i]? = some o /\ x.d = o.dst /\ x.op = orBad (compOp P o) /\ ((o.guard = none /\ x.g = none) ∨ ∃ j w t, o.guard = some (j, w) /\ (ops[j]?).bind (·.dst) = some t /\ x.g = some (t, w)) := by
 unfold compItem at h
 split at h
 ·rename_i o ho
  split at h
  ·rename_i hg
   cases h
   exact ⟨o, ho, rfl, rfl, .inl ⟨hg, rfl⟩⟩
  ·rename_i j w hg
   split at h
   ·rename_i t ht
    cases h
    exact ⟨o, ho, rfl, rfl, .inr ⟨j, w, t, hg, ht, rfl⟩⟩
   ·cases h
 ·cases h
theorem itemsOf_cons {ops : Array Oper} {i : Nat} {l : List Nat} {items : List Item} (h : itemsOf P ops ((i :: l).map (·, [])) = some items) : ∃ x xs, items = x :: xs /\ compItem P ops i = some x /\ itemsOf P ops (l.map (·, [])) = some xs := by
 simp only [List.map_cons, itemsOf, agains] at h
 split at h
 ·rename_i x y xs h1 h2 h3
  cases h
  cases h2
  exact ⟨x, xs, rfl, h1, h3⟩
 ·cases h
theorem items_ok {O : OK} (hO : CallOk P K B O) {r : Option Nat} {n : Nat} {ops : Array Oper} {Q : Exit -> Act -> World -> Prop} {k : BT Value -> St -> Bool} : ∀ (l : List Nat) {items : List Item} {T : BT Value} {s : St} {m : Mp} {w : World} {a : Act}, itemsOf P ops (l.map (·, [])) = some items -> Emb P K B m s w -> TR m T a.tmps ->
 itemsK P O items T s k = true -> (∀ a' w', Then P K B m a w k a' w' -> Q .normal a' w') -> wpOpsIn (Fr r) n P ops Q l a w
 | [], items, T, s, m, w, a, hi, E, hT, hk, hQ => by
  cases hi
  exact hQ a w ⟨T, s, m, hk, Mp.le_refl m, E, hT, rfl, Below.refl B w⟩
 | i :: l, items, T, s, m, w, a, hi, E, hT, hk, hQ => by
  obtain ⟨⟨g, d, op⟩, xs, rfl, hx, hxs⟩ := itemsOf_cons hi
  obtain ⟨o, ho, hd, hop, hg⟩ := compItem_inv hx
  simp only at hd hop hg
  subst hd hop
  have rec_ : ∀ a' w', Then P K B m a w (fun T s => itemsK P O xs T s k) a' w' -> wpOpsIn (Fr r) n P ops Q l a' w' := by
   rintro a' w' ⟨T', s', m', h1, h2, h3, h4, h5, h6⟩
   refine items_ok hO l hxs h3 h4 h1 (fun a'' w'' h => hQ a'' w'' ?_)
   obtain ⟨T'', s'', m'', g1, g2, g3, g4, g5, g6⟩ := h
   exact ⟨T'', s'', m'', g1, h2.trans g2, g3, g4, by rw [g5, h5], h6.trans g6⟩
  have hk0 : wantsK T g (runAnyK P O T s (orBad (compOp P o)) (fun v s => putTK T o.dst v (fun T => itemsK P O xs T s k))) (putTK T o.dst undef (fun T => itemsK P O xs T s k)) = true := hk
  simp only [wpOpsIn, ho]
  rcases wantsK_inv (i := i) hT hg hk0 with ⟨h1, h2⟩ | ⟨h1, h2⟩
  ·rw [if_pos h1]
   cases hc : compOp P o with
   | none => rw [hc] at h2; cases h2
   | some c =>
    rw [hc] at h2
    exact Oper.wpIn_mono rec_ (oper_ok hO (k := fun T s => itemsK P O xs T s k) hc E hT h2)
  ·rw [if_neg (by rw [h1]; simp)]
   refine ⟨fun _ _ => trivial, rec_ _ _ ?_⟩
   obtain ⟨T', h3, h4, h5⟩ := put_ok hT (VR.flat undef rfl) h2
   exact ⟨T', s, m, h3, Mp.le_refl m, E, h4, h5, Below.refl B w⟩
/-! ## Code -/
def XOf : Out -> Exit
 | .normal => .normal
 | .ret => .ret
 | .exit id => .exit id
 | .goto l => .goto l
def DR (m : Mp) : List Nat -> List Deferred -> Prop
 | [], l => l = []
 | q :: D, l => ∃ z y t, m q = some (z, y) /\ l = { target := .collected z, args := #[] } :: t /\ DR m D t
theorem DR.mono {m m' : Mp} (h : m.le m') : ∀ {D : List Nat} {l : List Deferred}, DR m D l -> DR m' D l
 | [], _, hl => hl
 | q :: D, l, ⟨z, y, t, h1, h2, h3⟩ => ⟨z, y, t, h _ _ h1, h2, DR.mono h h3⟩
def RR (m : Mp) : Option Nat -> Option Nat -> Prop
 | none, r => r = none
 | some l, r => ∃ x y, m l = some (x, y) /\ r = some x
theorem RR.mono {m m' : Mp} (h : m.le m') {r r' : Option Nat} (hr : RR m r r') : RR m' r r' := by
 cases r with
 | none => exact hr
 | some l => obtain ⟨x, y, h1, h2⟩ := hr; exact ⟨x, y, h _ _ h1, h2⟩
def Left (P : Program) (K : Kp) (B : Nat) (m : Mp) (w : World) (k : Out -> BT Value -> List Nat -> St -> Bool) (e : Exit) (a' : Act) (w' : World) : Prop :=
 ∃ x T' D' s' m', k x T' D' s' = true /\ e = XOf x /\ m.le m' /\ Emb P K B m' s' w' /\ TR m' T' a'.tmps /\ DR m' D' a'.defers /\ Below B w w'
theorem Left.more {m m' : Mp} {w w' : World} {k : Out -> BT Value -> List Nat -> St -> Bool} {e : Exit} {a' : Act} {w'' : World} (hm : m.le m') (hB : Below B w w') (h : Left P K B m' w' k e a' w'') : Left P K B m w k e a' w'' := by
 obtain ⟨x, T', D', s', m'', h1, h2, h3, h4, h5, h6, h7⟩ := h
 exact ⟨x, T', D', s', m'', h1, h2, hm.trans h3, h4, h5, h6, hB.trans h7⟩
def wpLoop (F : Fence) (n : Nat) (P : Program) (c : Code) (Q : Exit -> Act -> World -> Prop) (a : Act) (w : World) : Prop :=
 ∀ (b : Frame) (k : List Go.Item) (cs : List Frame), b.roundOf = F.round -> F.fn b.fn -> F.room (cs.length + 1 + n) ->
  ∃ e a' w', Q e a' w' /\ ArrivesIn (Machine.fenced P F) P (lone (b.atR a (.code c :: .inLoop c :: k)) cs w) b k cs e a' w'
theorem wpLoop_round {F : Fence} {n : Nat} {c : Code} {Q : Exit -> Act -> World -> Prop} {a : Act} (h : c.wpIn F n P (Exit.then (wpLoop F n P c Q) Q) a w) : wpLoop F n P c Q a w := by
 intro b k cs hro hb hr
 obtain ⟨e, a₁, w₁, hq, harr⟩ := h b (.inLoop c :: k) cs hro hb hr
 cases e with
 | normal =>
  obtain ⟨e₂, a₂, w₂, hq₂, harr₂⟩ := hq b k cs hro hb hr
  exact ⟨e₂, a₂, w₂, hq₂, .of_steps (StepsIn.trans harr (.one (fenced_calm hb hr rfl) stepR_inLoop)) harr₂⟩
 | exit id => exact ⟨_, a₁, w₁, hq, .pass (x := .inLoop c) rfl (fun _ _ => .inl (by simp)) harr⟩
 | goto l => exact ⟨_, a₁, w₁, hq, .pass (x := .inLoop c) rfl (fun _ _ => .inl (by simp)) harr⟩
 | ret => exact ⟨_, a₁, w₁, hq, .pass (x := .inLoop c) rfl (fun _ _ => .inl (by simp)) harr⟩
 | panic ch => exact ⟨_, a₁, w₁, hq, .pass (x := .inLoop c) rfl (fun _ _ => .inl (by simp)) harr⟩
 | outgrown => exact ⟨_, a₁, w₁, hq, .pass (x := .inLoop c) rfl (fun _ _ => .inl (by simp)) harr⟩
theorem wpIn_of_wpLoop {F : Fence} {n : Nat} {c : Code} {Q : Exit -> Act -> World -> Prop} {a : Act} (h : wpLoop F n P c Q a w) : (Code.loop c).wpIn F n P Q a w := by
 intro b k cs hro hb hr
 obtain ⟨e, a', w', hq, harr⟩ := h b k cs hro hb hr
 exact ⟨e, a', w', hq, .of_steps (.one (fenced_calm hb hr rfl) stepR_loop) harr⟩
theorem wpLoop_mono {F : Fence} {n : Nat} {c : Code} {Q Q' : Exit -> Act -> World -> Prop} {a : Act} (h : wpLoop F n P c Q a w) (hq : ∀ e a w, Q e a w -> Q' e a w) : wpLoop F n P c Q' a w :=
 fun b k cs hro hb hr => let ⟨e, a', w', q, r⟩ := h b k cs hro hb hr; ⟨e, a', w', hq _ _ _ q, r⟩
end
end Go.Proofs.Ytoeklhdklcpllaa.Ev
namespace Go.Proofs.Ytoeklhdklcpllaa.Ev
open Go Go.RowKit
section
variable {P : Program} {K : Kp} {B : Nat} {O : OK}
structure CodeOk (P : Program) (K : Kp) (B : Nat) (f : Option Nat -> CC -> BT Value -> List Nat -> St -> (Out -> BT Value -> List Nat -> St -> Bool) -> Bool) : Prop where
 code : ∀ {r : Option Nat} {c : Code} {T : BT Value} {D : List Nat} {s : St} {k : Out -> BT Value -> List Nat -> St -> Bool}, f r (comp P c) T D s k = true -> ∀ {m : Mp} {w : World} {a : Act} {r' : Option Nat}, RR m r r' -> Emb P K B m s w -> TR m T a.tmps -> DR m D a.defers ->
  c.wpIn (Fr r') 0 P (Left P K B m w k) a w
 loop : ∀ {r : Option Nat} {c : Code} {T : BT Value} {D : List Nat} {s : St} {k : Out -> BT Value -> List Nat -> St -> Bool}, f r (.loop (comp P c)) T D s k = true -> ∀ {m : Mp} {w : World} {a : Act} {r' : Option Nat}, RR m r r' -> Emb P K B m s w -> TR m T a.tmps -> DR m D a.defers ->
  wpLoop (Fr r') 0 P c (Left P K B m w k) a w
def DrawOk (P : Program) (K : Kp) (B : Nat) (O : OK) : Prop := ∀ {r : Option Nat} {id : Nat} {ops : Array Oper} {items : List Item} {T : BT Value} {s : St} {k : BT Value -> St -> Bool}, compRegion P ops true = some items -> itemsK P O items T s k = true ->
 ∀ {m : Mp} {w : World} {a : Act}, Emb P K B m s w -> TR m T a.tmps -> (Code.region id ops true).wpIn (Fr r) 0 P (fun e a' w' => e = .normal /\ Then P K B m a w k a' w') a w
def RangeOk (P : Program) (K : Kp) (B : Nat) (O : OK) : Prop := ∀ {r : Option Nat} {f : Operand} {F : X} {v : Value} {ps : Array Tmp} {x y : Code} {T : BT Value} {D : List Nat} {s : St} {k : Out -> BT Value -> List Nat -> St -> Bool}, cx f = some F -> XV T F v -> rangeK O r v ps.toList (comp P x) (comp P y) T D s k = true ->
 ∀ {m : Mp} {w : World} {a : Act} {r' : Option Nat}, RR m r r' -> Emb P K B m s w -> TR m T a.tmps -> DR m D a.defers -> (Code.rangeFunc f ps x y).wpIn (Fr r') 0 P (Left P K B m w k) a w
theorem Left.now {m : Mp} {w : World} {k : Out -> BT Value -> List Nat -> St -> Bool} {x : Out} {T : BT Value} {D : List Nat} {s : St} {a : Act} (hk : k x T D s = true) (E : Emb P K B m s w) (hT : TR m T a.tmps) (hD : DR m D a.defers) : Left P K B m w k (XOf x) a w :=
 ⟨x, T, D, s, m, hk, rfl, Mp.le_refl m, E, hT, hD, Below.refl B w⟩
theorem onOut_inv {x : Out} {n r : Bool} {e g : Nat -> Bool} (h : onOut x n r e g = true) : (x = .normal /\ n = true) ∨ (x = .ret /\ r = true) ∨ (∃ i, x = .exit i /\ e i = true) ∨ ∃ l, x = .goto l /\ g l = true := by
 cases x with
 | normal => exact .inl ⟨rfl, h⟩
 | ret => exact .inr (.inl ⟨rfl, h⟩)
 | exit i => exact .inr (.inr (.inl ⟨i, rfl, h⟩))
 | goto l => exact .inr (.inr (.inr ⟨l, rfl, h⟩))
theorem wpIn_scope {F : Fence} {n : Nat} {Q : Exit -> Act -> World -> Prop} {a : Act} {w : World} {c : Code} (h : c.wpIn F n P (Exit.noGoto Q) a w) : (Code.scope c).wpIn F n P Q a w := by
 intro b k cs hro hb hr
 have h0 : (lone (b.atR a (.code (.scope c) :: k)) cs w).fenced P F := fenced_calm hb hr rfl
 have s0 : step P (lone (b.atR a (.code (.scope c) :: k)) cs w) = .next (lone (b.atR a (.code c :: .inScope c :: k)) cs w) := step_lone_go (by simp [stepG, stepG.exec, Frame.atR])
 have s1 : ∀ a w, step P (lone (b.atR a (.inScope c :: k)) cs w) = .next (lone (b.atR a k) cs w) := fun a w => step_lone_go (by simp [stepG, stepG.exec, Frame.atR])
 obtain ⟨e, a₁, w₁, hq, harr⟩ := h b (.inScope c :: k) cs hro hb hr
 cases e with
 | normal => exact ⟨.normal, a₁, w₁, hq, .head h0 s0 (StepsIn.trans harr (.one (fenced_calm hb hr rfl) (s1 a₁ w₁)))⟩
 | exit id =>
  have hx : exitTo id (.inScope c :: k) = exitTo id k := by simp [exitTo]
  exact ⟨.exit id, a₁, w₁, hq, fun k' hk => .head h0 s0 (harr.1 k' (by rw [hx]; exact hk)),
   fun hr' hk => let ⟨k₁, h1, h2⟩ := harr.2 hr' (by rw [hx]; exact hk); ⟨k₁, h1, .head h0 s0 h2⟩⟩
 | goto l => exact hq.elim
 | ret => exact ⟨_, a₁, w₁, hq, .of_steps (.one h0 s0) harr⟩
 | panic ch => exact ⟨_, a₁, w₁, hq, .of_steps (.one h0 s0) harr⟩
 | outgrown => exact ⟨_, a₁, w₁, hq, .of_steps (.one h0 s0) harr⟩
theorem loop_round (hO : CodeOk P K B O.code) {r : Option Nat} {c : Code} {T : BT Value} {D : List Nat} {s : St} {k : Out -> BT Value -> List Nat -> St -> Bool}
 (hk : codeK P O r (.loop (comp P c)) T D s k = true) {m : Mp} {w : World} {a : Act} {r' : Option Nat} (hr : RR m r r') (E : Emb P K B m s w) (hT : TR m T a.tmps) (hD : DR m D a.defers) : wpLoop (Fr r') 0 P c (Left P K B m w k) a w := by
 have hk0 : O.code r (comp P c) T D s (fun x T D s => onOut x (O.code r (.loop (comp P c)) T D s k) (k x T D s) (fun _ => k x T D s) (fun _ => k x T D s)) = true := hk
 refine wpLoop_round (wpIn_mono (hO.code hk0 hr E hT hD) ?_)
 rintro e a' w' ⟨x, T', D', s', m', h1, rfl, h2, h3, h4, h5, h6⟩
 rcases onOut_inv h1 with ⟨rfl, h1⟩ | ⟨rfl, h1⟩ | ⟨i, rfl, h1⟩ | ⟨l, rfl, h1⟩
 ·exact wpLoop_mono (hO.loop h1 (hr.mono h2) h3 h4 h5) (fun e a w h => h.more h2 h6)
 all_goals exact ⟨_, T', D', s', m', h1, rfl, h2, h3, h4, h5, h6⟩
theorem code_ok (hC : CallOk P K B O) (hO : CodeOk P K B O.code) (hDr : DrawOk P K B O) (hRa : RangeOk P K B O) : CodeOk P K B (codeK P O) where
 loop := by
  intro r c T D s k hk m w a r' hr E hT hD
  exact loop_round hO hk hr E hT hD
 code := by
  intro r c T D s k hk m w a r' hr E hT hD
  cases c with
  | skip => exact wpIn_skip (Left.now (x := .normal) hk E hT hD)
  | label l => exact wpIn_label (Left.now (x := .normal) hk E hT hD)
  | ret => exact wpIn_ret (Left.now (x := .ret) hk E hT hD)
  | exit id => exact wpIn_exit (Left.now (x := .exit id) hk E hT hD)
  | goto l => exact wpIn_goto (Left.now (x := .goto l) hk E hT hD)
  | seq x y =>
   have hk0 : O.code r (comp P x) T D s (fun z T D s => onOut z (O.code r (comp P y) T D s k) (k z T D s) (fun _ => k z T D s) (fun _ => k z T D s)) = true := hk
   refine wpIn_seq (wpIn_mono (hO.code hk0 hr E hT hD) ?_)
   rintro e a' w' ⟨z, T', D', s', m', h1, rfl, h2, h3, h4, h5, h6⟩
   rcases onOut_inv h1 with ⟨rfl, h1⟩ | ⟨rfl, h1⟩ | ⟨i, rfl, h1⟩ | ⟨l, rfl, h1⟩
   ·exact wpIn_mono (hO.code h1 (hr.mono h2) h3 h4 h5) (fun e a w h => h.more h2 h6)
   all_goals exact ⟨_, T', D', s', m', h1, rfl, h2, h3, h4, h5, h6⟩
  | cond x y z =>
   cases hx : cx x with
   | none =>
    have : codeK P O r (condOr (comp P y) (comp P z) (cx x)) T D s k = true := hk
    rw [hx] at this
    cases this
   | some X =>
    have hk0 : codeK P O r (condOr (comp P y) (comp P z) (cx x)) T D s k = true := hk
    rw [hx] at hk0
    have hk1 : valK T X (fun v => onBool v (fun t => @Bool.rec (fun _ => Bool) (O.code r (comp P z) T D s k) (O.code r (comp P y) T D s k) t)) = true := hk0
    obtain ⟨v, hv, hk2⟩ := valK_inv hk1
    obtain ⟨t, rfl, hk3⟩ := onBool_inv hk2
    have he : a.eval x = .bool t := by simpa only [VR] using eval_ok hT hx hv
    refine wpIn_cond he ?_
    cases t with
    | true => exact hO.code hk3 hr E hT hD
    | false => exact hO.code hk3 hr E hT hD
  | block id x =>
   have hk0 : O.code r (comp P x) T D s (fun z T D s => onOut z (k z T D s) (k z T D s) (fun j => ifB (Nat.beq j id) (k .normal T D s) (k z T D s)) (fun _ => k z T D s)) = true := hk
   refine wpIn_block (wpIn_mono (hO.code hk0 hr E hT hD) ?_)
   rintro e a' w' ⟨z, T', D', s', m', h1, rfl, h2, h3, h4, h5, h6⟩
   rcases onOut_inv h1 with ⟨rfl, h1⟩ | ⟨rfl, h1⟩ | ⟨i, rfl, h1⟩ | ⟨l, rfl, h1⟩
   ·exact ⟨.normal, T', D', s', m', h1, rfl, h2, h3, h4, h5, h6⟩
   ·exact ⟨.ret, T', D', s', m', h1, rfl, h2, h3, h4, h5, h6⟩
   ·show Exit.inBlock id _ (.exit i) a' w'
    simp only [Exit.inBlock]
    rcases ifB_or h1 with ⟨h0, h1⟩ | ⟨h0, h1⟩
    ·have : i = id := by simpa using h0
     rw [if_pos this]
     exact ⟨.normal, T', D', s', m', h1, rfl, h2, h3, h4, h5, h6⟩
    ·have : ¬ i = id := by
      intro e
      subst e
      simp at h0
     rw [if_neg this]
     exact ⟨.exit i, T', D', s', m', h1, rfl, h2, h3, h4, h5, h6⟩
   ·exact ⟨.goto l, T', D', s', m', h1, rfl, h2, h3, h4, h5, h6⟩
  | loop x => exact wpIn_of_wpLoop (loop_round hO hk hr E hT hD)
  | scope x =>
   have hk0 : O.code r (comp P x) T D s (fun z T D s => onOut z (k z T D s) (k z T D s) (fun _ => k z T D s) (fun _ => false)) = true := hk
   refine wpIn_scope (wpIn_mono (hO.code hk0 hr E hT hD) ?_)
   rintro e a' w' ⟨z, T', D', s', m', h1, rfl, h2, h3, h4, h5, h6⟩
   rcases onOut_inv h1 with ⟨rfl, h1⟩ | ⟨rfl, h1⟩ | ⟨i, rfl, h1⟩ | ⟨l, rfl, h1⟩
   ·exact ⟨.normal, T', D', s', m', h1, rfl, h2, h3, h4, h5, h6⟩
   ·exact ⟨.ret, T', D', s', m', h1, rfl, h2, h3, h4, h5, h6⟩
   ·exact ⟨.exit i, T', D', s', m', h1, rfl, h2, h3, h4, h5, h6⟩
   ·cases h1
  | region id ops draw =>
   have hk0 : codeK P O r (itemsOr (compRegion P ops draw)) T D s k = true := hk
   cases hi : compRegion P ops draw with
   | none => rw [hi] at hk0; cases hk0
   | some items =>
    rw [hi] at hk0
    have hk1 : itemsK P O items T s (fun T s => k .normal T D s) = true := hk0
    have out : ∀ {a' : Act} {w' : World}, Then P K B m a w (fun T s => k .normal T D s) a' w' -> Left P K B m w k .normal a' w' := by
     rintro a' w' ⟨T', s', m', h1, h2, h3, h4, h5, h6⟩
     exact ⟨.normal, T', D, s', m', h1, rfl, h2, h3, h4, by rw [h5]; exact hD.mono h2, h6⟩
    cases draw with
    | true => exact wpIn_mono (hDr hi hk1 E hT) (by rintro e a' w' ⟨rfl, h⟩; exact out h)
    | false => exact wpIn_region (items_ok hC _ hi E hT hk1 (fun a' w' h => out h))
  | rangeFunc f ps x y =>
   have hk0 : codeK P O r (rangeOr ps.toList (comp P x) (comp P y) (cx f)) T D s k = true := hk
   cases hf : cx f with
   | none => rw [hf] at hk0; cases hk0
   | some F =>
    rw [hf] at hk0
    have hk1 : valK T F (fun f => rangeK O r f ps.toList (comp P x) (comp P y) T D s k) = true := hk0
    obtain ⟨v, hv, hk2⟩ := valK_inv hk1
    exact hRa hf hv hk2 hr E hT hD
  | refuse => cases hk
end
end Go.Proofs.Ytoeklhdklcpllaa.Ev
namespace Go.Proofs.Ytoeklhdklcpllaa.Ev
open Go Go.RowKit
theorem wpIn_n {r : Option Nat} {n : Nat} {P : Program} {c : Code} {Q : Exit -> Act -> World -> Prop} {a : Act} {w : World} (h : c.wpIn (Fr r) 0 P Q a w) : c.wpIn (Fr r) n P Q a w :=
 fun b k cs hro hb _ => h b k cs hro hb (fun _ h => by simp [Fr, Fence.wide] at h)
theorem upd_TR {m : Mp} {T T' : BT Value} {a : Array Value} {d : Nat} {v u : Value} (hT : TR m T a) (hd : (T.get d).isSome = true) (hv : VR m v u) (hg : ∀ j, T'.get j = if j = d then some v else T.get j) : TR m T' (a.setIfInBounds d u) := by
 intro t x ht
 obtain ⟨x0, hx0⟩ := Option.isSome_iff_exists.1 hd
 obtain ⟨x1, h1, _⟩ := hT d x0 hx0
 have hlt : d < a.size := (Array.getElem?_eq_some_iff.1 h1).1
 rw [hg] at ht
 by_cases h : t = d
 ·subst h
  rw [if_pos rfl] at ht
  cases ht
  exact ⟨u, by simp [hlt], hv⟩
 ·rw [if_neg h] at ht
  obtain ⟨x', h2, h3⟩ := hT t x ht
  exact ⟨x', by rw [Array.getElem?_setIfInBounds_ne (by omega)]; exact h2, h3⟩
theorem setTs_ok {m : Mp} : ∀ {ps : List Nat} {vs us : List Value} {T : BT Value} {tmps : Array Value} {k : BT Value -> Bool}, TR m T tmps -> LR m vs us -> setTsK T ps vs k = true ->
 us.length = ps.length /\ ∃ T', k T' = true /\ TR m T' ((ps.zip us).foldl (fun tmps (p : Nat × Value) => tmps.setIfInBounds p.1 p.2) tmps)
 | [], vs, us, T, tmps, k, hT, hv, hk => by
  cases vs with
  | nil =>
   simp only [LR] at hv
   subst hv
   exact ⟨rfl, T, hk, hT⟩
  | cons => cases hk
 | p :: ps, vs, us, T, tmps, k, hT, hv, hk => by
  cases vs with
  | nil => cases hk
  | cons v vs =>
   simp only [LR] at hv
   obtain ⟨u, us', rfl, h1, h2⟩ := hv
   have hk0 : updK T p v (fun T => setTsK T ps vs k) = true := hk
   obtain ⟨T1, hk1, hd, hg⟩ := updK_inv hk0
   obtain ⟨h3, T', h4, h5⟩ := setTs_ok (upd_TR hT hd h1 hg) h2 hk1
   exact ⟨by simp [h3], T', h4, h5⟩
section
variable {P : Program} {K : Kp} {B : Nat} {O : OK}
theorem loop_at {m : Mp} {s : St} {w : World} (E : Emb P K B m s w) {l x y : Nat} (hm : m l = some (x, y)) {st : LoopState} {p : Out} {T : BT Value} {ps : List Nat} {a b : CC} {q : Nat} (hc : s.h.get l = some (.loop st p T ps a b q)) :
 ∃ r : Loop, w.heap[x]? = some (.loop r) /\ r.state = st /\ r.pending = p.code /\ TR m T r.tmps /\ r.params.toList = ps /\ comp P r.assign = a /\ comp P r.body = b /\ (∃ z u, m q = some (z, u) /\ r.defers = z) /\
  ∀ (st' : LoopState) (p' : Out) (h' : BT CObj), (∀ j, h'.get j = if j = l then some (.loop st' p' T ps a b q) else s.h.get j) -> Emb P K B m ⟨h', s.n⟩ (w.putObj x (.loop { r with state := st', pending := p'.code })) /\ Below B w (w.putObj x (.loop { r with state := st', pending := p'.code })) := by
 obtain ⟨o', hx, r, rfl, h1, h2, h3, h4, h5, h6, z, u, h7, h8⟩ := E.obj l x y _ hm hc
 have hlow : B <= x /\ x < w.heap.size := ⟨E.own hm hc (by simp), (E.low l x y hm).2⟩
 refine ⟨r, hx, h1, h2, h3, h4, h5, h6, ⟨z, u, h7, h8⟩, fun st' p' h' hg => ⟨?_, ?_⟩⟩
 ·exact E.put hm hc (by simp) hg (by simp) (World.putObj_heap_same hlow.2) (fun k hk => World.putObj_heap_other hk) ⟨_, rfl, rfl, rfl, h3, h4, h5, h6, z, u, h7, h8⟩
 ·exact below_of rfl rfl rfl (by simp) (fun k hk => World.putObj_heap_other (by omega))
theorem end_ok {m : Mp} {s : St} {w : World} (E : Emb P K B m s w) {l x y : Nat} (hm : m l = some (x, y)) {z : Out} {k : Value -> St -> Bool} (hk : endK l z s k = true) :
 ∃ v w', (Instr.endRound x z.code).run P w = .ok v w' /\ ∃ s', k v s' = true /\ Emb P K B m s' w' /\ Below B w w' /\ VR m v v := by
 obtain ⟨st, p, T, ps, a, b, q, hc, hk⟩ := loopK_inv hk
 obtain ⟨r, hx, h1, h2, h3, h4, h5, h6, h7, hput⟩ := loop_at E hm hc
 have run := run_endRound (P := P) z.code hx
 cases st with
 | busy =>
  have hk0 : onOut z (storeK s l (.loop .ready .normal T ps a b q) (k (.bool true))) (storeK s l (.loop .done z T ps a b q) (k (.bool false))) (fun _ => storeK s l (.loop .done z T ps a b q) (k (.bool false))) (fun _ => storeK s l (.loop .done z T ps a b q) (k (.bool false))) = true := hk
  rcases onOut_inv hk0 with ⟨rfl, hk1⟩ | ⟨rfl, hk1⟩ | ⟨i, rfl, hk1⟩ | ⟨i, rfl, hk1⟩
  all_goals
   obtain ⟨h', hk2, _, hg⟩ := storeK_inv hk1
   obtain ⟨hE, hB⟩ := hput _ _ h' hg
   exact ⟨_, _, run, _, hk2, hE, hB, VR.flat _ rfl⟩
 | _ => cases hk
theorem round_ok (hO : CodeOk P K B O.code) {l : Nat} {vs : List Value} {s : St} {k : Value -> St -> Bool} (hk : roundK O l vs s k = true) {m : Mp} {w : World} {us : List Value} {x y : Nat} (hm : m l = some (x, y)) (E : Emb P K B m s w) (hv : LR m vs us) :
 ∃ f tmps assign body, (Instr.yield x ⟨us⟩).run P w = .ok (.round x f tmps assign body) w /\ ∀ r n, RoundIn (Fr r) n P x f tmps assign body w (Ends P K B m w k) := by
 obtain ⟨st, p, T, ps, a, b, q, hc, hk⟩ := loopK_inv hk
 obtain ⟨r, hx, h1, h2, h3, rfl, rfl, rfl, h7, hput⟩ := loop_at E hm hc
 have hk0 : setTsK T r.params.toList vs (fun T => O.code (some l) (comp P r.assign) T [] s (fun x T D s => onOut x (bodyK O l (comp P r.body) T D s k) false (fun _ => false) (fun _ => false))) = true := hk
 obtain ⟨hlen, T', hk1, hT⟩ := setTs_ok h3 hv hk0
 refine ⟨_, _, _, _, run_yield hx (by simpa using hlen), fun rr n => roundIn_of_wpIn (F := Fr rr) trivial ?_⟩
 have hfold : ((r.params.zip ⟨us⟩).foldl (fun tmps (p : Nat × Value) => tmps.setIfInBounds p.1 p.2) r.tmps) = ((r.params.toList.zip us).foldl (fun tmps (p : Nat × Value) => tmps.setIfInBounds p.1 p.2) r.tmps) := by
  rw [<- Array.foldl_toList]
  simp [Array.toList_zip]
 have hass := hO.code (a := ⟨(r.params.zip ⟨us⟩).foldl (fun tmps (p : Nat × Value) => tmps.setIfInBounds p.1 p.2) r.tmps, []⟩) (r' := some x) hk1 ⟨x, y, hm, rfl⟩ E (by show TR m T' ((r.params.zip ⟨us⟩).foldl (fun tmps (p : Nat × Value) => tmps.setIfInBounds p.1 p.2) r.tmps); rw [hfold]; exact hT) rfl
 refine wpIn_n (r := some x) (wpIn_mono hass ?_)
 rintro e a₁ w₁ ⟨z, T1, D1, s1, m1, g1, rfl, g2, g3, g4, g5, g6⟩
 rcases onOut_inv g1 with ⟨rfl, g1⟩ | ⟨rfl, g1⟩ | ⟨i, rfl, g1⟩ | ⟨i, rfl, g1⟩
 ·have g1' : bodyK O l (comp P r.body) T1 D1 s1 k = true := g1
  obtain ⟨st1, p1, T2, ps1, c1, d1, q1, hc1, hk2⟩ := loopK_inv g1'
  have hm1 := g2 _ _ hm
  obtain ⟨r1, hx1, i1, i2, i3, i4, i5, i6, i7, hput1⟩ := loop_at g3 hm1 hc1
  cases st1 with
  | ready =>
   have hk3 : storeK s1 l (.loop .busy p1 T2 ps1 c1 d1 q1) (fun s => O.code (some l) (comp P r.body) T1 D1 s (fun x _ _ s => endK l x s k)) = true := hk2
   obtain ⟨h', hk4, _, hg⟩ := storeK_inv hk3
   obtain ⟨hE, hB⟩ := hput1 .busy p1 h' hg
   have hbegin := run_beginRound (P := P) hx1 i1
   have hre : ({ r1 with state := .busy, pending := p1.code } : Loop) = { r1 with state := .busy } := by rw [<- i2]
   rw [hre] at hE hB
   refine ⟨_, hbegin, wpIn_n (r := some x) (wpIn_mono (hO.code (r' := some x) hk4 ⟨x, y, hm1, rfl⟩ hE g4 g5) ?_)⟩
   rintro e a₂ w₂ ⟨z, T3, D3, s3, m3, j1, rfl, j2, j3, j4, j5, j6⟩
   obtain ⟨v, w3, hrun, s4, hk5, hE4, hB4, hvv⟩ := end_ok j3 (j2 _ _ hm1) j1
   have hR : Ends P K B m w k (.returned v) w3 := ⟨v, s4, m3, hk5, g2.trans j2, hE4, g6.trans (hB.trans (j6.trans hB4)), hvv⟩
   cases z with
   | normal => exact ⟨v, w3, hrun, hR⟩
   | ret => exact ⟨v, w3, hrun, hR⟩
   | exit i => exact ⟨v, w3, hrun, hR⟩
   | goto i => exact ⟨v, w3, hrun, hR⟩
  | _ => cases hk2
 all_goals cases g1
end
end Go.Proofs.Ytoeklhdklcpllaa.Ev
namespace Go.Proofs.Ytoeklhdklcpllaa.Ev
open Go Go.RowKit
def res1 (tmps : Array Value) : ResultVar -> Sem Value
 | .tmp t => pure (tmps.getD t undef)
 | .cell a t => do loadVar t (<- asAddr (tmps.getD a undef))
section
variable {P : Program} {K : Kp} {B : Nat} {O : OK}
theorem loadAt_as {t : TypeId} {u r : Value} {w : World} (h : (Instr.loadAt t u).run P w = .ok r w) (hu : ∃ a, u = .pointer (some a)) : (do loadVar t (<- asAddr u) : Sem Value).run P w = .ok r w := by
 obtain ⟨a, rfl⟩ := hu
 exact h
theorem res_ok {m : Mp} {s : St} {w : World} (E : Emb P K B m s w) {T : BT Value} {tmps : Array Value} (hT : TR m T tmps) : ∀ {l : List ResultVar} {cs : List CRes} {k : List Value -> Bool}, compRes P l = some cs -> resK s T cs k = true ->
 ∃ vs us, k vs = true /\ (l.mapM (res1 tmps)).run P w = .ok us w /\ LR m vs us
 | [], cs, k, hc, hk => by
  cases hc
  exact ⟨[], [], hk, rfl, by simp only [LR]⟩
 | .tmp t :: l, cs, k, hc, hk => by
  simp only [compRes, Option.map_eq_some_iff] at hc
  obtain ⟨cs', h1, rfl⟩ := hc
  have hk0 : getK T t (fun v => resK s T cs' (fun l => k (v :: l))) = true := hk
  obtain ⟨v, hv, hk1⟩ := getK_inv hk0
  obtain ⟨u, hu, hvu⟩ := hT t v hv
  obtain ⟨vs, us, h2, h3, h4⟩ := res_ok E hT h1 hk1
  refine ⟨v :: vs, u :: us, h2, ?_, by simp only [LR]; exact ⟨u, us, rfl, hvu, h4⟩⟩
  have : (res1 tmps (.tmp t)).run P w = .ok u w := by simp [res1, Array.getD_eq_getD_getElem?, hu]
  rw [List.mapM_cons]
  simp only [Sem.run_bind, this, Result.andThen_ok, h3, Sem.run_pure]
 | .cell a t :: l, cs, k, hc, hk => by
  simp only [compRes] at hc
  split at hc
  ·rename_i n cs' h0 h1
   cases hc
   have hk0 : getK T a (fun a => ldK s n a (fun v => resK s T cs' (fun l => k (v :: l)))) = true := hk
   obtain ⟨v, hv, hk1⟩ := getK_inv hk0
   obtain ⟨u, hu, hvu⟩ := hT a v hv
   obtain ⟨r, hk2, r', hr, hrr⟩ := ld_ok h0 E hvu hk1
   obtain ⟨vs, us, h2, h3, h4⟩ := res_ok E hT h1 hk2
   refine ⟨r :: vs, r' :: us, h2, ?_, by simp only [LR]; exact ⟨r', us, rfl, hrr, h4⟩⟩
   have hp : ∃ a, u = .pointer (some a) := by
    obtain ⟨b, o, rfl, _⟩ := onPtr_inv hk1
    obtain ⟨x, y, _, rfl⟩ := hvu.ptr_inv
    exact ⟨_, rfl⟩
   have : (res1 tmps (.cell a t)).run P w = .ok r' w := by
    have := loadAt_as hr hp
    simpa [res1, Array.getD_eq_getD_getElem?, hu] using this
   rw [List.mapM_cons]
   simp only [Sem.run_bind, this, Result.andThen_ok, h3, Sem.run_pure]
  ·cases hc
theorem one_ok {m : Mp} {vs us : List Value} {k : Value -> Bool} (hk : oneK vs k = true) (hv : LR m vs us) : ∃ r, k r = true /\ VR m r (if h : (⟨us⟩ : Array Value).size = 1 then (⟨us⟩ : Array Value)[0] else .tuple ⟨us⟩) := by
 have tup : ∀ {vs us : List Value}, LR m vs us -> VR m (.tuple ⟨vs⟩) (.tuple ⟨us⟩) := by
  intro vs us h
  simp only [VR, AR]
  exact ⟨_, rfl, us, rfl, h⟩
 cases vs with
 | nil =>
  have := hv
  simp only [LR] at this
  subst this
  exact ⟨_, hk, by simpa using tup hv⟩
 | cons v l =>
  cases l with
  | nil =>
   simp only [LR] at hv
   obtain ⟨u, us', rfl, h1, rfl⟩ := hv
   exact ⟨v, hk, by simpa using h1⟩
  | cons v' l =>
   have := LR.length hv
   refine ⟨_, hk, ?_⟩
   rw [dif_neg (by show ¬ us.length = 1; rw [this]; simp)]
   exact tup hv
theorem results_eq (fn : Func) (tmps : Array Value) {us : List Value} {w : World} (h : (fn.results.toList.mapM (res1 tmps)).run P w = .ok us w) : (results fn tmps).run P w = .ok (if h : (⟨us⟩ : Array Value).size = 1 then (⟨us⟩ : Array Value)[0] else .tuple ⟨us⟩) w := by
 have e : results fn tmps = (do let vs <- fn.results.mapM (res1 tmps); pure (if h : vs.size = 1 then vs[0] else .tuple vs)) := by
  unfold results
  congr 1
 have hm : (fn.results.mapM (res1 tmps)).run P w = .ok (⟨us⟩ : Array Value) w := by
  rw [Array.mapM_eq_mapM_toList, Sem.run_map, h]
  rfl
 rw [e, Sem.run_bind, hm]
 rfl
theorem leaves_ok {fn : Func} {r : List CRes} (hr : compRes P fn.results.toList = some r) {tmps : Array Value} {T : BT Value} {m0 : Mp} {w0 : World} {k : Value -> St -> Bool} : ∀ {D : List Nat} {l : List Deferred} {m : Mp} {s : St} {w : World}, DR m D l -> Emb P K B m s w -> TR m T tmps -> m0.le m -> Below B w0 w ->
 takeAllK D s (fun s => resK s T r (fun l => oneK l (fun v => k v s))) = true -> LeavesInM Fence.wide 0 P fn tmps (Ends P K B m0 w0 k) l .returning w
 | [], l, m, s, w, hD, E, hT, hle, hB, hk => by
  have : l = [] := hD
  subst this
  have hk0 : resK s T r (fun l => oneK l (fun v => k v s)) = true := hk
  obtain ⟨vs, us, h1, h2, h3⟩ := res_ok E hT hr hk0
  obtain ⟨v, h4, h5⟩ := one_ok h1 h3
  exact ⟨_, results_eq fn tmps h2, v, s, m, h4, hle, E, hB, h5⟩
 | q :: D, l, m, s, w, hD, E, hT, hle, hB, hk => by
  obtain ⟨z, y, t, h1, rfl, h3⟩ := hD
  have hk0 : objK s q (fun o => @CObj.casesOn (fun _ => Bool) o false (fun _ _ _ _ => false) (fun _ _ _ _ _ _ _ => false) (fun d => @Bool.rec (fun _ => Bool) false (storeK s q (.deferred false) (fun s => takeAllK D s (fun s => resK s T r (fun l => oneK l (fun v => k v s))))) d) (fun _ => false) (fun _ => false)) = true := hk
  obtain ⟨o, ho, hk1⟩ := objK_inv hk0
  cases o with
  | deferred d =>
   cases d with
   | true =>
    obtain ⟨h', hk2, _, hg⟩ := storeK_inv (k := fun s => takeAllK D s (fun s => resK s T r (fun l => oneK l (fun v => k v s)))) hk1
    obtain ⟨o', hx, hor⟩ := E.obj q z y _ h1 ho
    have hx' : w.heap[z]? = some (.deferred (some [])) := by
     have : o' = .deferred (some []) := hor
     rw [hx, this]
    have hlow : B <= z /\ z < w.heap.size := ⟨E.own h1 ho (by simp), (E.low q z y h1).2⟩
    have hE : Emb P K B m ⟨h', s.n⟩ (w.putObj z (.deferred none)) := E.put h1 ho (by simp) hg (by simp) (World.putObj_heap_same hlow.2) (fun k hk => World.putObj_heap_other hk) rfl
    have hB' : Below B w (w.putObj z (.deferred none)) := below_of rfl rfl rfl (by simp) (fun k hk => World.putObj_heap_other (by omega))
    exact ⟨by simp, .inl ⟨z, _, rfl, run_takeDeferred hx', leaves_ok hr h3 hE hT hle (hB.trans hB') hk2⟩⟩
   | false => cases hk1
  | _ => cases hk1
theorem undefs_get : ∀ (n j : Nat) (v : Value), (undefs n)[j]? = some v -> j < n /\ v = undef
 | 0, j, v, h => by simp [undefs] at h
 | n + 1, j, v, h => by
  cases j with
  | zero => simp [undefs] at h; exact ⟨by omega, h.symm⟩
  | succ j =>
   simp only [undefs, List.getElem?_cons_succ] at h
   obtain ⟨h1, h2⟩ := undefs_get n j v h
   exact ⟨by omega, h2⟩
theorem compF_inv {f : FuncId} {c : CF} (h : compF P f = some c) : ∃ fn cd r, P.funcs[f]? = some fn /\ fn.body = some cd /\ compRes P fn.results.toList = some r /\ (fn.name == "runtime.NumGoroutine") = false /\ c = ⟨comp P cd, fn.ntmps, r⟩ := by
 unfold compF at h
 split at h
 ·rename_i fn h1
  split at h
  ·rename_i cd h2
   split at h
   ·rename_i r h3
    cases hn : fn.name == "runtime.NumGoroutine" with
    | true => rw [hn] at h; cases h
    | false => rw [hn] at h; cases h; exact ⟨fn, cd, r, h1, h2, h3, hn, rfl⟩
   ·cases h
  ·cases h
 ·cases h
theorem call_ok {C : Nat -> (CF -> Bool) -> Bool} (hC : ∀ f k, C f k = true -> ∃ c, compF P f = some c /\ k c = true) (hO : CodeOk P K B O.code) {f : FuncId} {vs : List Value} {s : St} {k : Value -> St -> Bool} (hk : callK C O f vs s k = true) {m : Mp} {w : World} {us : List Value} (E : Emb P K B m s w) (hv : LR m vs us) :
 (∀ w, (callFunc f ⟨us⟩).run P w = .ok (.enter f ⟨us⟩) w) /\ CallsIn Fence.wide 0 P f ⟨us⟩ w (Ends P K B m w k) := by
 obtain ⟨c, hc, hk1⟩ := hC _ _ hk
 obtain ⟨fn, cd, r, h1, h2, h3, h4, rfl⟩ := compF_inv hc
 have hk2 : ifB (Nat.ble (lenL vs) fn.ntmps) (putsK (full fn.ntmps) 0 vs (fun T => O.code none (comp P cd) T [] s (fun x T D s => onOut x (endCallK r T D s k) (endCallK r T D s k) (fun _ => false) (fun _ => false)))) false = true := hk1
 obtain ⟨hle, hk3⟩ := ifB_true hk2
 obtain ⟨T, hk4, _, hg⟩ := putsK_inv hk3
 have hlen := LR.length hv
 rw [lenL_eq, Nat.ble_eq] at hle
 refine ⟨fun w => ?_, callsIn_of_wp_marks h1 h2 trivial ?_⟩
 ·have h4' : ¬ fn.name = "runtime.NumGoroutine" := by simpa using h4
  simp [callFunc, h1, h2, h4']
 ·have hT : TR m T ((⟨us⟩ : Array Value) ++ Array.replicate (fn.ntmps - (⟨us⟩ : Array Value).size) undef) := by
   intro j v hj
   rw [hg] at hj
   by_cases hlt : 0 <= j /\ j < 0 + vs.length
   ·rw [if_pos hlt] at hj
    obtain ⟨u, h5, h6⟩ := LR.get hv hj
    refine ⟨u, ?_, h6⟩
    rw [Array.getElem?_append_left (by show j - 0 < us.length; omega)]
    simpa using h5
   ·rw [if_neg hlt] at hj
    obtain ⟨h5, rfl⟩ := undefs_get _ _ _ (ofList_get hj)
    refine ⟨undef, ?_, VR.flat undef rfl⟩
    have hj' : us.length <= j := by omega
    rw [Array.getElem?_append_right (by show us.length <= j; omega)]
    rw [Array.getElem?_replicate]
    rw [if_pos (by show j - us.length < fn.ntmps - us.length; omega)]
  have hcode := hO.code (a := ⟨(⟨us⟩ : Array Value) ++ Array.replicate (fn.ntmps - (⟨us⟩ : Array Value).size) undef, []⟩) (r' := none) hk4 rfl E hT rfl
  refine wpIn_mono hcode ?_
  rintro e a' w' ⟨z, T', D', s', m', g1, rfl, g2, g3, g4, g5, g6⟩
  rcases onOut_inv g1 with ⟨rfl, g1⟩ | ⟨rfl, g1⟩ | ⟨i, rfl, g1⟩ | ⟨i, rfl, g1⟩
  ·exact leaves_ok h3 g5 g3 g4 g2 g6 g1
  ·exact leaves_ok h3 g5 g3 g4 g2 g6 g1
  all_goals cases g1
end
end Go.Proofs.Ytoeklhdklcpllaa.Ev
