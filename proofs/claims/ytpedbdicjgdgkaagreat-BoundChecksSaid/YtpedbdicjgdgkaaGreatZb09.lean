import Derived.Test.YtpedbdicjgdgkaaGreatZb08
set_option linter.unusedVariables false
set_option linter.unusedSimpArgs false
/- Values that are built out of parts. No program here. -/
namespace Go.Proofs.YtpedbdicjgdgkaaGreat.Ev
open Go Go.RowKit

theorem foldl_set (off : Nat) : ∀ (l : List Value) (k : Nat) (cs : Array Value), off + k + l.length ≤ cs.size →
    ((l.zipIdx k).foldl (fun cs (p : Value × Nat) => cs.setIfInBounds (off + p.2) p.1) cs).size = cs.size ∧
    ∀ j, ((l.zipIdx k).foldl (fun cs (p : Value × Nat) => cs.setIfInBounds (off + p.2) p.1) cs)[j]? = if off + k ≤ j ∧ j < off + k + l.length then l[j - (off + k)]? else cs[j]?
  | [], k, cs, _ => by
    refine ⟨rfl, fun j => ?_⟩
    rw [if_neg (by simp)]
    rfl
  | v :: l, k, cs, h => by
    have h' : off + (k + 1) + l.length ≤ (cs.setIfInBounds (off + k) v).size := by simp at h ⊢; omega
    obtain ⟨h1, h2⟩ := foldl_set off l (k + 1) (cs.setIfInBounds (off + k) v) h'
    simp only [List.zipIdx_cons, List.foldl_cons]
    refine ⟨by rw [h1]; simp, fun j => ?_⟩
    rw [h2]
    simp only [List.length_cons]
    by_cases he : j = off + k
    · subst he
      rw [if_neg (by omega), if_pos (by omega)]
      have : off + k < cs.size := by simp at h; omega
      simp [this]
    · by_cases hr : off + (k + 1) ≤ j ∧ j < off + (k + 1) + l.length
      · rw [if_pos hr, if_pos (by omega), show j - (off + k) = (j - (off + (k + 1))) + 1 by omega, List.getElem?_cons_succ]
      · rw [if_neg hr, if_neg (by omega)]
        rw [Array.getElem?_setIfInBounds_ne (by omega)]

/-- What stands in the evaluator's parts stands in the world's. -/
def PR (m : Mp) (place : Nat → Option (Nat × Nat)) : List (Nat × Nat × Value) → List (Nat × Value) → Prop
  | [], l => l = []
  | (o, n, v) :: ps, l => ∃ i u t, l = (i, u) :: t ∧ place i = some (o, n) ∧ VR m v u ∧ PR m place ps t

theorem fill_ok {m : Mp} {place : Nat → Option (Nat × Nat)} {N : Nat} : ∀ {ps : List (Nat × Nat × Value)} {l : List (Nat × Value)} {c : BT Value} {cs : Array Value} {k : BT Value → Bool}, PR m place ps l → (∀ o n v, (o, n, v) ∈ ps → o + n ≤ N) → cs.size = N →
    (∀ j v, c.get j = some v → oneCell v = true ∧ ∃ v', cs[j]? = some v' ∧ VR m v v') → fillK c ps k = true →
    ∃ c' cs', k c' = true ∧ Instr.fill place cs l = some cs' ∧ cs'.size = N ∧ (∀ j v, c'.get j = some v → oneCell v = true ∧ ∃ v', cs'[j]? = some v' ∧ VR m v v')
  | [], l, c, cs, k, hp, _, hs, hc, hk => by
    simp only [PR] at hp
    subst hp
    exact ⟨c, cs, hk, rfl, hs, hc⟩
  | (o, n, v) :: ps, l, c, cs, k, hp, hN, hs, hc, hk => by
    simp only [PR] at hp
    obtain ⟨i, u, t, rfl, hpl, hv, hp⟩ := hp
    obtain ⟨lv, hlv⟩ : ∃ l, v.cells = ⟨l⟩ := ⟨v.cells.toList, rfl⟩
    have hk1 : (@Array.rec Value (fun _ => Bool) (fun l => ifB (Nat.beq (lenL l) n) (ifB (allOne l) (putsK c o l (fun c => fillK c ps k)) false) false) v.cells) = true := hk
    rw [hlv] at hk1
    have hk2 : ifB (Nat.beq (lenL lv) n) (ifB (allOne lv) (putsK c o lv (fun c => fillK c ps k)) false) false = true := hk1
    obtain ⟨h1, hk3⟩ := ifB_true hk2
    obtain ⟨h2, hk4⟩ := ifB_true hk3
    have h1' : lv.length = n := by rw [← lenL_eq]; simpa using h1
    obtain ⟨c1, hk5, _, hc1⟩ := putsK_inv hk4
    have hcells := hv.cells
    rw [hlv] at hcells
    obtain ⟨lu, hlu⟩ : ∃ l, u.cells = ⟨l⟩ := ⟨u.cells.toList, rfl⟩
    rw [hlu] at hcells
    have hlen : lu.length = lv.length := LR.length hcells
    have hle := hN o n v (by simp)
    obtain ⟨g1, g2⟩ := foldl_set o lu 0 cs (by rw [hlen, h1', hs]; exact hle)
    have hcs1 : (u.cells.zipIdx.foldl (fun cs (p : Value × Nat) => cs.setIfInBounds (o + p.2) p.1) cs) = ((lu.zipIdx 0).foldl (fun cs (p : Value × Nat) => cs.setIfInBounds (o + p.2) p.1) cs) := by
      rw [← Array.foldl_toList, hlu]
      simp [Array.toList_zipIdx]
    obtain ⟨c', cs', r1, r2, r3, r4⟩ := fill_ok (place := place) (N := N) (ps := ps) (l := t) (c := c1) (cs := (lu.zipIdx 0).foldl (fun cs (p : Value × Nat) => cs.setIfInBounds (o + p.2) p.1) cs) (k := k) hp (fun o n v h => hN o n v (by simp [h])) (by rw [g1]; exact hs)
      (fun j q hj => by
        rw [hc1] at hj
        rw [g2]
        by_cases h : o ≤ j ∧ j < o + lv.length
        · rw [if_pos h] at hj
          rw [if_pos (by rw [hlen]; exact h)]
          obtain ⟨q', h3, h4⟩ := LR.get hcells hj
          exact ⟨allOne_eq lv h2 q (List.mem_of_getElem? hj), q', h3, h4⟩
        · rw [if_neg h] at hj
          rw [if_neg (by rw [hlen]; exact h)]
          exact hc j q hj) hk5
    refine ⟨c', cs', r1, ?_, r3, r4⟩
    have hsz : u.cells.size = n := by rw [hlu]; show lu.length = n; omega
    unfold Instr.fill
    rw [hpl]
    simp only
    rw [if_neg (by simp [hsz]; omega)]
    rw [hcs1]
    exact r2

theorem PR_of {m : Mp} {T : BT Value} {ρ : Operand → Value} {place : Nat → Option (Nat × Nat)} : ∀ {parts : List (Nat × Operand)} {xs : List (Nat × Nat × X)} {ps : List (Nat × Nat × Value)}, cparts place parts = some xs → XPs T xs ps → (∀ p ∈ parts, ∀ x v, cx p.2 = some x → XV T x v → VR m v (ρ p.2)) →
    PR m place ps (parts.map fun p => (p.1, ρ p.2))
  | [], xs, ps, hc, hx, _ => by
    simp only [cparts, Option.some.injEq] at hc
    subst hc
    simp only [XPs] at hx
    subst hx
    simp only [PR, List.map_nil]
  | (i, x) :: parts, xs, ps, hc, hx, hv => by
    simp only [cparts] at hc
    split at hc
    · rename_i o n x' l h1 h2 h3
      cases hc
      simp only [XPs] at hx
      obtain ⟨v, vs, rfl, h4, h5⟩ := hx
      simp only [PR, List.map_cons]
      exact ⟨i, ρ x, _, rfl, h1, hv (i, x) (by simp) x' v h2 h4, PR_of h3 h5 (fun p hp => hv p (by simp [hp]))⟩
    · cases hc
theorem inN_of {T : BT Value} {N : Nat} : ∀ {xs : List (Nat × Nat × X)} {ps : List (Nat × Nat × Value)}, inN N xs = true → XPs T xs ps → ∀ o n v, (o, n, v) ∈ ps → o + n ≤ N
  | [], ps, _, hx, o, n, v, hm => by simp only [XPs] at hx; subst hx; cases hm
  | (o', n', x) :: xs, ps, hN, hx, o, n, v, hm => by
    simp only [XPs] at hx
    obtain ⟨u, vs, rfl, h4, h5⟩ := hx
    simp only [inN, Bool.and_eq_true, Nat.ble_eq] at hN
    rcases List.mem_cons.1 hm with h | h
    · cases h; exact hN.1
    · exact inN_of hN.2 h5 o n v h

theorem fields_run {P : Program} (w : World) (fs : Array Field) (h : ∀ f ∈ fs.toList, (P.info? f.type).isSome = true) :
    (fs.mapM fun f => do pure (f.offset, ← sizeOf f.type) : Sem (Array (Nat × Nat))).run P w = .ok (fs.map fun f => (f.offset, ((P.info? f.type).map (·.size)).getD 0)) w := by
  rw [Array.mapM_eq_mapM_toList]
  have key : ∀ l : List Field, (∀ f ∈ l, (P.info? f.type).isSome = true) → (l.mapM fun f => do pure (f.offset, ← sizeOf f.type) : Sem (List (Nat × Nat))).run P w = .ok (l.map fun f => (f.offset, ((P.info? f.type).map (·.size)).getD 0)) w := by
    intro l
    induction l with
    | nil => intro _; rfl
    | cons f l ih =>
      intro h
      have h1 := h f (by simp)
      cases hi : P.info? f.type with
      | none => rw [hi] at h1; cases h1
      | some i =>
        rw [List.mapM_cons]
        simp only [Sem.run_bind, run_sizeOf hi, Result.andThen_ok, Sem.run_pure]
        rw [ih (fun g hg => h g (by simp [hg]))]
        simp [hi]
  rw [Sem.run_map, key fs.toList h]
  simp only [Result.andThen_ok]
  congr 1
  apply Array.ext'
  simp
theorem place_eq {P : Program} {fs : Array Field} (h : ∀ f ∈ fs.toList, (P.info? f.type).isSome = true) : (fun i => (fs.map fun f => (f.offset, ((P.info? f.type).map (·.size)).getD 0))[i]?) = placesOf P fs := by
  funext i
  unfold placesOf
  rw [Array.getElem?_map]
  cases hf : fs[i]? with
  | none => rfl
  | some f =>
    have := h f (by have := Array.getElem?_eq_some_iff.1 hf; obtain ⟨h1, h2⟩ := this; rw [← h2]; simp)
    cases hi : P.info? f.type with
    | none => rw [hi] at this; cases this
    | some inf => simp [hi]

theorem build_ok {P : Program} {m : Mp} {w : World} {t : TypeId} {z : Array Value} {place : Nat → Option (Nat × Nat)} {ps : List (Nat × Nat × Value)} {l : List (Nat × Value)} {k : Value → Bool} (hz : zeroOf P t = some z)
    (hrun : ∀ cs, Instr.fill place z l = some cs → (Instr.build t ⟨l⟩).run P w = .ok (.agg cs) w) (hp : PR m place ps l) (hN : ∀ o n v, (o, n, v) ∈ ps → o + n ≤ z.size) (hk : buildK z.toList ps k = true) :
    ∃ r, k r = true ∧ ∃ r', (Instr.build t ⟨l⟩).run P w = .ok r' w ∧ VR m r r' := by
  obtain ⟨i, zv, hi, hzv, hvz, hf, hone⟩ := zeroOf_inv hz
  unfold buildK at hk
  obtain ⟨c, hk1, hc⟩ := addsLeaf hk
  obtain ⟨c', cs', hk2, hfill, hsz, hc'⟩ := fill_ok (N := z.size) hp hN rfl (fun j v hj => by
    have h1 := hc j v hj
    exact ⟨hone v (List.mem_of_getElem? h1), v, by simpa using h1, VR.flat v (by
      have : ∀ (l : List Value), flatL l = true → ∀ v ∈ l, flat v = true := by
        intro l
        induction l with
        | nil => intro _ v hv; cases hv
        | cons a l ih =>
          intro h v hv
          simp only [flatL, Bool.and_eq_true] at h
          rcases List.mem_cons.1 hv with rfl | hv
          · exact h.1
          · exact ih h.2 v hv
      exact this _ hf v (List.mem_of_getElem? h1))⟩) hk1
  obtain ⟨lr, hk3, hlr, hg⟩ := segK_inv hk2
  have hlen : lr.length = z.size := by rw [hlr, lenL_eq]; rfl
  refine ⟨_, hk3, .agg cs', hrun cs' hfill, ?_⟩
  simp only [VR]
  refine ⟨cs', rfl, ?_⟩
  obtain ⟨csl⟩ := cs'
  simp only [AR]
  refine ⟨csl, rfl, LR.of_get (by rw [hlen]; exact hsz) (fun j v hj => ?_)⟩
  have hjl := (List.getElem?_eq_some_iff.1 hj).1
  have h1 := hg j (by rw [lenL_eq]; show j < z.size; omega)
  rw [Nat.zero_add, hj] at h1
  obtain ⟨_, v', h2, h3⟩ := hc' j v h1
  exact ⟨v', by simpa using h2, h3⟩

theorem lit_ok {P : Program} {K : Kp} {B : Nat} {m : Mp} {s : St} {w : World} {t e len : Nat} {i : TypeInfo} {z : Array Value} {ps : List (Nat × Nat × Value)} {l : List (Nat × Value)} {k : Value → St → Bool} (ht : P.underlying t = some (.slice e)) (hi : P.info? e = some i) (hz : zeroOf P e = some z) (hzs : z.size = i.size) (h16 : len * i.size ≤ 65536) (hlen : len ≤ 65536)
    (E : Emb P K B m s w) (hp : PR m (fun k => some (k * i.size, i.size)) ps l) (hN : ∀ o n v, (o, n, v) ∈ ps → o + n ≤ len * i.size) (hk : litK s e len (len * i.size) (repeatN z.toList len) ps k = true) :
    ∃ r s', k r s' = true ∧ ∃ m' w' r', (Instr.buildSlice t len ⟨l⟩).run P w = .ok r' w' ∧ m.le m' ∧ Emb P K B m' s' w' ∧ Below B w w' ∧ VR m' r r' := by
  obtain ⟨i', zv, hi2, hzv, hvz, hf, hone⟩ := zeroOf_inv hz
  rw [hi] at hi2; cases hi2
  unfold litK at hk
  have hrl : (repeatN z.toList len).length = len * i.size := by rw [repeatN_length]; show len * z.size = _; rw [hzs]
  obtain ⟨c, hk1, hc⟩ := addsLeaf hk
  have hff : ∀ v ∈ repeatN z.toList len, flat v = true := by
    have : ∀ (l : List Value), flatL l = true → ∀ v ∈ l, flat v = true := by
      intro l
      induction l with
      | nil => intro _ v hv; cases hv
      | cons a l ih =>
        intro h v hv
        simp only [flatL, Bool.and_eq_true] at h
        rcases List.mem_cons.1 hv with rfl | hv
        · exact h.1
        · exact ih h.2 v hv
    exact this _ (repeatN_flat hf len)
  obtain ⟨c', cs', hk2, hfill, hsz, hc'⟩ := fill_ok (cs := ⟨repeatN z.toList len⟩) (N := len * i.size) hp hN hrl (fun j v hj => by
    have h1 := hc j v hj
    exact ⟨repeatN_one hone len v (List.mem_of_getElem? h1), v, by simpa using h1, VR.flat v (hff v (List.mem_of_getElem? h1))⟩) hk1
  have hk3 := nOf_inv hk2
  have hr : OR P (m.put s.n w.heap.size 0) s.n (.cells (len * i.size) c' e false) (.cells cs' e (0, 0)) := by
    refine ⟨cs', rfl, by rw [hsz]; exact Nat.le_refl _, fun j v hj => ?_, by simp, fun j v hj => ?_⟩
    · obtain ⟨_, v', h1, h2⟩ := hc' j v hj
      exact ⟨v', h1, h2.mono (Mp.put_le E.none)⟩
    · obtain ⟨h0, v', h1, h2⟩ := hc' j v hj
      exact ⟨h0, by rw [← hsz]; exact (Array.getElem?_eq_some_iff.1 h1).1⟩
  obtain ⟨s', hk4, hE, hB, hle, _⟩ := new_ok E 0 hr hk3
  refine ⟨_, s', hk4, _, _, .slice (some ⟨w.heap.size, 0, none⟩) len len, ?_, hle, hE, hB, ?_⟩
  · have hcell : ∀ Z : Array Value, (Z = if len * i.size = 0 then #[] else z) → (Array.range (len * i.size)).map (fun j => Z[j % Z.size]!) = ⟨repeatN z.toList len⟩ := by
      rintro Z rfl
      by_cases h0 : len * i.size = 0
      · rw [h0]
        apply Array.ext'
        have e0 := List.eq_nil_of_length_eq_zero (hrl.trans h0)
        simp only [e0, Array.toList_map, Array.toList_range, List.range_zero, List.map_nil]
      · rw [if_neg h0, ← hzs]; exact zeros_eq z len
    have hz2 : (if len * i.size = 0 then pure #[] else do pure (← zeroValue e).cells : Sem (Array Value)).run P w = .ok (if len * i.size = 0 then #[] else z) w := by
      by_cases h0 : len * i.size = 0
      · rw [if_pos h0, if_pos h0]; rfl
      · rw [if_neg h0, if_neg h0, Sem.run_bind, run_zero hi hzv]
        show Result.ok zv.cells w = _
        rw [hvz]
    have hbig : ¬ len * i.size > 2 ^ 24 := by omega
    unfold Instr.buildSlice
    simp only [Sem.run_bind, run_und ht, Result.andThen_ok, run_sizeOf hi, if_neg hbig, Sem.run_pure, Sem.run_ite]
    by_cases h0 : len * i.size = 0
    · have hc0 := hcell #[] (by rw [if_pos h0])
      simp only [if_pos h0, Sem.run_bind, Sem.run_pure, Result.andThen_ok]
      rw [hc0, hfill]
      simp [newRow]
    · have hc0 := hcell z (by rw [if_neg h0])
      simp only [if_neg h0, Sem.run_bind, Sem.run_pure, Result.andThen_ok, run_zero hi hzv, hvz]
      rw [hc0, hfill]
      simp [newRow]
  · simp only [VR]
    refine ⟨trivial, ?_⟩
    rw [if_pos (by unfold OPEN; omega)]
    exact ⟨_, _, Mp.put_same _ _ _ _, rfl⟩
end Go.Proofs.YtpedbdicjgdgkaaGreat.Ev

/- Each operation, turned and run, does what the program's does. No program here. -/
namespace Go.Proofs.YtpedbdicjgdgkaaGreat.Ev
open Go Go.RowKit

theorem cxs_ok {m : Mp} {T : BT Value} {ρ : Operand → Value} : ∀ {l : List Operand} {xs : List X} {vs : List Value}, cxs l = some xs → XVs T xs vs → (∀ x ∈ l, ∀ X v, cx x = some X → XV T X v → VR m v (ρ x)) → LR m vs (l.map ρ)
  | [], xs, vs, h, hv, _ => by
    simp only [cxs, Option.some.injEq] at h; subst h
    simp only [XVs] at hv; subst hv
    simp only [LR, List.map_nil]
  | x :: l, xs, vs, h, hv, k => by
    simp only [cxs] at h
    split at h
    · rename_i X Xs h1 h2
      cases h
      simp only [XVs] at hv
      obtain ⟨v, vs', rfl, h3, h4⟩ := hv
      simp only [LR, List.map_cons]
      exact ⟨ρ x, _, rfl, k x (by simp) X v h1 h3, cxs_ok h2 h4 (fun y hy => k y (by simp [hy]))⟩
    · cases h
theorem cxo_ok {m : Mp} {T : BT Value} {ρ : Operand → Value} {x : Option Operand} {X' : Option X} {v : Option Value} (h : cxo x = some X') (hv : XO T X' v) (k : ∀ y, x = some y → ∀ X v, cx y = some X → XV T X v → VR m v (ρ y)) : VO m v (x.map ρ) := by
  cases x with
  | none =>
    simp only [cxo, Option.some.injEq] at h; subst h
    simp only [XO] at hv; subst hv
    simp only [VO, Option.map_none]
  | some y =>
    simp only [cxo, Option.map_eq_some_iff] at h
    obtain ⟨X, h1, rfl⟩ := h
    simp only [XO] at hv
    obtain ⟨u, rfl, h2⟩ := hv
    simp only [VO, Option.map_some]
    exact ⟨_, rfl, k y rfl X u h1 h2⟩

/-- What the operands of an operation are. -/
def Hρ (m : Mp) (T : BT Value) (ρ : Operand → Value) (op : Op) : Prop := ∀ x ∈ op.operands, ∀ X v, cx x = some X → XV T X v → VR m v (ρ x)

section
variable {P : Program} {K : Kp} {B : Nat} {m : Mp} {s : St} {w : World} {T : BT Value} {ρ : Operand → Value} {k : Value → St → Bool} {dst : Option Tmp} {ty : TypeId} {pos : String} {af : Array Edge} {gd : Option (Nat × Bool)} {c : COp}
/-- An operation goes through. -/
def OpDone (P : Program) (K : Kp) (B : Nat) (m : Mp) (w : World) (k : Value → St → Bool) (r : Result Next) : Prop := ∃ v s', k v s' = true ∧ OpOk P K B m w r v s'

theorem OpDone.keep (E : Emb P K B m s w) {v u : Value} {r : Result Next} (hk : k v s = true) (h : VR m v u) (hr : r = .ok (.value u) w) : OpDone P K B m w k r := ⟨v, s, hk, OpOk.pure E h hr⟩

theorem op_move {x : Operand} {op : Op} (ho : op = .move x ∨ op = .assign x) (hc : compOp P ⟨dst, op, ty, pos, af, gd⟩ = some c) (hρ : Hρ m T ρ op) (E : Emb P K B m s w) (hk : runOpK P T s c k = true) : OpDone P K B m w k ((execOp ρ ⟨dst, op, ty, pos, af, gd⟩).run P w) := by
  have hc' : (cx x).map COp.mov = some c := by rcases ho with rfl | rfl <;> exact hc
  obtain ⟨X, h1, rfl⟩ := Option.map_eq_some_iff.1 hc'
  obtain ⟨v, hv, hk⟩ := valK_inv (k := vK s k) hk
  refine OpDone.keep E hk (hρ x (by rcases ho with rfl | rfl <;> simp [Op.operands]) X v h1 hv) ?_
  rcases ho with rfl | rfl <;> rfl
theorem op_pick {a b d : Operand} (hc : compOp P ⟨dst, .pick a b d, ty, pos, af, gd⟩ = some c) (hρ : Hρ m T ρ (.pick a b d)) (E : Emb P K B m s w) (hk : runOpK P T s c k = true) : OpDone P K B m w k ((execOp ρ ⟨dst, .pick a b d, ty, pos, af, gd⟩).run P w) := by
  simp only [compOp] at hc
  split at hc
  · rename_i A C D h1 h2 h3
    cases hc
    have hk1 : valK T A (fun c => valK T C (fun a => valK T D (fun b => pickK c a b (vK s k)))) = true := hk
    obtain ⟨va, ha, hk2⟩ := valK_inv hk1
    obtain ⟨vb, hb, hk3⟩ := valK_inv hk2
    obtain ⟨vd, hd, hk4⟩ := valK_inv hk3
    have ra := hρ a (by simp [Op.operands]) A va h1 ha
    have rb := hρ b (by simp [Op.operands]) C vb h2 hb
    have rd := hρ d (by simp [Op.operands]) D vd h3 hd
    obtain ⟨t, rfl, hk5⟩ := onBool_inv hk4
    have e : ρ a = .bool t := by simpa only [VR] using ra
    cases t with
    | true => exact OpDone.keep E hk5 rb (by simp [execOp, e, asBool])
    | false => exact OpDone.keep E hk5 rd (by simp [execOp, e, asBool])
  · cases hc
theorem op_alloc {t : TypeId} (hc : compOp P ⟨dst, .alloc t, ty, pos, af, gd⟩ = some c) (E : Emb P K B m s w) (hk : runOpK P T s c k = true) : OpDone P K B m w k ((execOp ρ ⟨dst, .alloc t, ty, pos, af, gd⟩).run P w) := by
  simp only [compOp] at hc
  obtain ⟨z, h1, rfl⟩ := Option.map_eq_some_iff.1 hc
  obtain ⟨v, s', hk2, m', w', u, hr, hle, hE, hB, hv⟩ := alloc_ok h1 E hk
  exact ⟨v, s', hk2, m', w', .value u, by simp [execOp, hr], trivial, hle, hE, hB, hv⟩
theorem op_box {t : TypeId} {x : Operand} (hc : compOp P ⟨dst, .box t x, ty, pos, af, gd⟩ = some c) (hρ : Hρ m T ρ (.box t x)) (E : Emb P K B m s w) (hk : runOpK P T s c k = true) : OpDone P K B m w k ((execOp ρ ⟨dst, .box t x, ty, pos, af, gd⟩).run P w) := by
  simp only [compOp] at hc
  obtain ⟨X, h1, rfl⟩ := Option.map_eq_some_iff.1 hc
  obtain ⟨v, hv, hk1⟩ := valK_inv (k := fun v => boxK s t v k) hk
  obtain ⟨r, s', hk2, m', w', u, hr, hle, hE, hB, hv⟩ := box_ok E (hρ x (by simp [Op.operands]) X v h1 hv) hk1
  exact ⟨r, s', hk2, m', w', .value u, by simp [execOp, hr], trivial, hle, hE, hB, hv⟩
theorem op_load {t : TypeId} {x : Operand} (hc : compOp P ⟨dst, .load t x, ty, pos, af, gd⟩ = some c) (hρ : Hρ m T ρ (.load t x)) (E : Emb P K B m s w) (hk : runOpK P T s c k = true) : OpDone P K B m w k ((execOp ρ ⟨dst, .load t x, ty, pos, af, gd⟩).run P w) := by
  simp only [compOp] at hc
  split at hc
  · rename_i n A h1 h2
    cases hc
    obtain ⟨v, hv, hk1⟩ := valK_inv (k := fun a => ldK s n a (vK s k)) hk
    obtain ⟨r, hk2, r', hr, hrr⟩ := ld_ok h1 E (hρ x (by simp [Op.operands]) A v h2 hv) hk1
    exact OpDone.keep E hk2 hrr (by simp [execOp, hr])
  · cases hc
theorem op_store {t : TypeId} {x y : Operand} (hc : compOp P ⟨dst, .store t x y, ty, pos, af, gd⟩ = some c) (hρ : Hρ m T ρ (.store t x y)) (E : Emb P K B m s w) (hk : runOpK P T s c k = true) : OpDone P K B m w k ((execOp ρ ⟨dst, .store t x y, ty, pos, af, gd⟩).run P w) := by
  simp only [compOp] at hc
  split at hc
  · rename_i n i A C h1 h2 h3 h4
    obtain ⟨h5, hc⟩ := sel_inv hc
    cases hc
    have hk1 : valK T A (fun a => valK T C (fun x => stK s n x a (k undef))) = true := hk
    obtain ⟨va, ha, hk2⟩ := valK_inv hk1
    obtain ⟨vb, hb, hk3⟩ := valK_inv hk2
    obtain ⟨s', hk4, w', hr, hE, hB⟩ := st_ok h1 h2 (fun h => by subst h; simpa using h5) E (hρ y (by simp [Op.operands]) C vb h4 hb) (hρ x (by simp [Op.operands]) A va h3 ha) hk3
    exact ⟨undef, s', hk4, m, w', .skip, by simp [execOp, hr], trivial, Mp.le_refl m, hE, hB, VR.flat undef rfl⟩
  · cases hc
theorem op_nilc {x : Operand} (hc : compOp P ⟨dst, .nilCheck x, ty, pos, af, gd⟩ = some c) (hρ : Hρ m T ρ (.nilCheck x)) (E : Emb P K B m s w) (hk : runOpK P T s c k = true) : OpDone P K B m w k ((execOp ρ ⟨dst, .nilCheck x, ty, pos, af, gd⟩).run P w) := by
  simp only [compOp] at hc
  obtain ⟨X, h1, rfl⟩ := Option.map_eq_some_iff.1 hc
  obtain ⟨v, hv, hk1⟩ := valK_inv (k := fun v => nilcK v (vK s k)) hk
  obtain ⟨r, hr, hk2⟩ := optK_inv hk1
  have h2 := hρ x (by simp [Op.operands]) X v h1 hv
  refine OpDone.keep E hk2 h2 ?_
  rcases nilc_ok h2 hr with ⟨a, e⟩ | ⟨f, p, c, e⟩ <;> simp [execOp, e]
theorem op_bin {b : BinOp} {t t' : TypeId} {x y : Operand} (hc : compOp P ⟨dst, .binOp b t x y t', ty, pos, af, gd⟩ = some c) (hρ : Hρ m T ρ (.binOp b t x y t')) (E : Emb P K B m s w) (hk : runOpK P T s c k = true) : OpDone P K B m w k ((execOp ρ ⟨dst, .binOp b t x y t', ty, pos, af, gd⟩).run P w) := by
  simp only [compOp] at hc
  split at hc
  · rename_i A C h1 h2
    cases hc
    have hk1 : valK T A (fun x => valK T C (fun y => binK P b t (nilKind P t) x y (vK s k))) = true := hk
    obtain ⟨va, ha, hk2⟩ := valK_inv hk1
    obtain ⟨vb, hb, hk3⟩ := valK_inv hk2
    obtain ⟨r, hr, hk4⟩ := optK_inv hk3
    rw [forceV_eq] at hk4
    obtain ⟨h5, h6⟩ := bin_ok (w := w) (hρ x (by simp [Op.operands]) A va h1 ha) (hρ y (by simp [Op.operands]) C vb h2 hb) hr x y
    refine OpDone.keep E hk4 h6 ?_
    have e : (execOp ρ ⟨dst, .binOp b t x y t', ty, pos, af, gd⟩) = (do pure (.value (← (do eqGuard b t x y (ρ x) (ρ y); binOp b t (ρ x) (ρ y))))) := rfl
    rw [e, Sem.run_bind, h5]
    rfl
  · cases hc
end
end Go.Proofs.YtpedbdicjgdgkaaGreat.Ev

/- The rest of the operations, turned and run, do what the program's do. No program here. -/
namespace Go.Proofs.YtpedbdicjgdgkaaGreat.Ev
open Go Go.RowKit

theorem map_list (ρ : Operand → Value) (a : Array Operand) : a.map ρ = ⟨a.toList.map ρ⟩ := by
  apply Array.ext'
  simp
theorem map_parts (ρ : Operand → Value) (a : Array (Nat × Operand)) : (a.map fun (p : Nat × Operand) => (p.1, ρ p.2)) = ⟨a.toList.map fun (p : Nat × Operand) => (p.1, ρ p.2)⟩ := by
  apply Array.ext'
  simp

section
variable {P : Program} {K : Kp} {B : Nat} {m : Mp} {s : St} {w : World} {T : BT Value} {ρ : Operand → Value} {k : Value → St → Bool} {dst : Option Tmp} {ty : TypeId} {pos : String} {af : Array Edge} {gd : Option (Nat × Bool)} {c : COp}

theorem oK_inv {x : Option Value} (h : oK s k x = true) : ∃ v, x = some v ∧ k v s = true := by
  cases x with
  | none => cases h
  | some v => exact ⟨v, rfl, by simpa [oK, optK, vK, forceV_eq] using h⟩

/-- What gives a value and a world, as the lemmas say it. -/
theorem OpDone.of {e : Sem Value} {op : Oper} (h : ∃ v s', k v s' = true ∧ ∃ m' w' u, e.run P w = .ok u w' ∧ m.le m' ∧ Emb P K B m' s' w' ∧ Below B w w' ∧ VR m' v u) (he : execOp ρ op = (do pure (.value (← e)))) : OpDone P K B m w k ((execOp ρ op).run P w) := by
  obtain ⟨v, s', hk, m', w', u, hr, hle, hE, hB, hv⟩ := h
  refine ⟨v, s', hk, m', w', .value u, ?_, trivial, hle, hE, hB, hv⟩
  rw [he, Sem.run_bind, hr]
  rfl
theorem OpDone.ofK (E : Emb P K B m s w) {e : Sem Value} {op : Oper} (h : ∃ v, k v s = true ∧ ∃ u, e.run P w = .ok u w ∧ VR m v u) (he : execOp ρ op = (do pure (.value (← e)))) : OpDone P K B m w k ((execOp ρ op).run P w) := by
  obtain ⟨v, hk, u, hr, hv⟩ := h
  exact OpDone.of ⟨v, s, hk, m, w, u, hr, Mp.le_refl m, E, Below.refl B w, hv⟩ he

theorem op_un {u : UnOp} {t : TypeId} {x : Operand} (hc : compOp P ⟨dst, .unOp u t x, ty, pos, af, gd⟩ = some c) (hρ : Hρ m T ρ (.unOp u t x)) (E : Emb P K B m s w) (hk : runOpK P T s c k = true) : OpDone P K B m w k ((execOp ρ ⟨dst, .unOp u t x, ty, pos, af, gd⟩).run P w) := by
  simp only [compOp] at hc
  obtain ⟨X, h1, rfl⟩ := Option.map_eq_some_iff.1 hc
  obtain ⟨v, hv, hk1⟩ := valK_inv (k := fun x => oK s k (ev1 P (Op.unary u) x)) hk
  obtain ⟨r, hr, hk2⟩ := oK_inv hk1
  obtain ⟨h2, h3⟩ := ev1_ok (w := w) (hρ x (by simp [Op.operands]) X v h1 hv) hr
  exact OpDone.ofK E ⟨r, hk2, r, h2, h3⟩ rfl
theorem op_conv {a b : TypeId} {x : Operand} (hc : compOp P ⟨dst, .convert a b x, ty, pos, af, gd⟩ = some c) (hρ : Hρ m T ρ (.convert a b x)) (E : Emb P K B m s w) (hk : runOpK P T s c k = true) : OpDone P K B m w k ((execOp ρ ⟨dst, .convert a b x, ty, pos, af, gd⟩).run P w) := by
  simp only [compOp] at hc
  obtain ⟨X, h1, rfl⟩ := Option.map_eq_some_iff.1 hc
  obtain ⟨v, hv, hk1⟩ := valK_inv (k := fun x => oK s k (ev1 P (convert a b) x)) hk
  obtain ⟨r, hr, hk2⟩ := oK_inv hk1
  obtain ⟨h2, h3⟩ := ev1_ok (w := w) (hρ x (by simp [Op.operands]) X v h1 hv) hr
  exact OpDone.ofK E ⟨r, hk2, r, h2, h3⟩ rfl
theorem op_mini {t : TypeId} {x : Operand} (hc : compOp P ⟨dst, .makeInterface t x, ty, pos, af, gd⟩ = some c) (hρ : Hρ m T ρ (.makeInterface t x)) (E : Emb P K B m s w) (hk : runOpK P T s c k = true) : OpDone P K B m w k ((execOp ρ ⟨dst, .makeInterface t x, ty, pos, af, gd⟩).run P w) := by
  simp only [compOp] at hc
  obtain ⟨X, h1, rfl⟩ := Option.map_eq_some_iff.1 hc
  obtain ⟨v, hv, hk1⟩ := valK_inv (k := fun x => oK s k (ev1 P (Instr.makeInterface t) x)) hk
  obtain ⟨r, hr, hk2⟩ := oK_inv hk1
  obtain ⟨h2, h3⟩ := ev1_ok (w := w) (hρ x (by simp [Op.operands]) X v h1 hv) hr
  exact OpDone.ofK E ⟨r, hk2, r, h2, h3⟩ rfl
theorem op_tas {a b : TypeId} {o : Bool} {x : Operand} (hc : compOp P ⟨dst, .typeAssert x a b o, ty, pos, af, gd⟩ = some c) (hρ : Hρ m T ρ (.typeAssert x a b o)) (E : Emb P K B m s w) (hk : runOpK P T s c k = true) : OpDone P K B m w k ((execOp ρ ⟨dst, .typeAssert x a b o, ty, pos, af, gd⟩).run P w) := by
  simp only [compOp] at hc
  obtain ⟨X, h1, rfl⟩ := Option.map_eq_some_iff.1 hc
  obtain ⟨v, hv, hk1⟩ := valK_inv (k := fun x => oK s k (ev1 P (fun v => Instr.typeAssert v a b o) x)) hk
  obtain ⟨r, hr, hk2⟩ := oK_inv hk1
  obtain ⟨h2, h3⟩ := ev1_ok (w := w) (hρ x (by simp [Op.operands]) X v h1 hv) hr
  exact OpDone.ofK E ⟨r, hk2, r, h2, h3⟩ rfl
theorem op_fn {f : FuncId} {p q : Array Operand} (hc : compOp P ⟨dst, .makeFunc (.func f) p q, ty, pos, af, gd⟩ = some c) (hρ : Hρ m T ρ (.makeFunc (.func f) p q)) (E : Emb P K B m s w) (hk : runOpK P T s c k = true) : OpDone P K B m w k ((execOp ρ ⟨dst, .makeFunc (.func f) p q, ty, pos, af, gd⟩).run P w) := by
  simp only [compOp] at hc
  split at hc
  · rename_i xs ys h1 h2
    cases hc
    obtain ⟨vs, hv, hk1⟩ := valsK_inv (k := fun p => valsK T ys (fun c => k (.func (.func f) ⟨p⟩ ⟨c⟩) s)) hk
    obtain ⟨us, hu, hk2⟩ := valsK_inv hk1
    have e1 := cxs_ok h1 hv (fun x hx X v => hρ x (by simp [Op.operands]; exact .inl (by simpa using hx)) X v)
    have e2 := cxs_ok h2 hu (fun x hx X v => hρ x (by simp [Op.operands]; exact .inr (by simpa using hx)) X v)
    refine OpDone.ofK E ⟨_, hk2, .func (.func f) (p.map ρ) (q.map ρ), rfl, ?_⟩ rfl
    rw [map_list, map_list]
    simp only [VR, AR]
    exact ⟨_, _, rfl, ⟨_, rfl, e1⟩, ⟨_, rfl, e2⟩⟩
  · cases hc
theorem op_mks {t : TypeId} {x y : Operand} (hc : compOp P ⟨dst, .makeSlice t x y, ty, pos, af, gd⟩ = some c) (hρ : Hρ m T ρ (.makeSlice t x y)) (E : Emb P K B m s w) (hk : runOpK P T s c k = true) : OpDone P K B m w k ((execOp ρ ⟨dst, .makeSlice t x y, ty, pos, af, gd⟩).run P w) := by
  simp only [compOp] at hc
  split at hc
  · rename_i e X Y h1 h2 h3
    split at hc
    · rename_i i z h4 h5
      obtain ⟨h6, hc⟩ := sel_inv hc
      cases hc
      obtain ⟨vx, hx, hk1⟩ := valK_inv (k := fun l => valK T Y (fun c => mksK s e i.size i.bytes z.toList l c k)) hk
      obtain ⟨vy, hy, hk2⟩ := valK_inv hk1
      exact OpDone.of (mks_ok h1 h4 h5 (by simpa using h6) E (hρ x (by simp [Op.operands]) X vx h2 hx) (hρ y (by simp [Op.operands]) Y vy h3 hy) hk2) rfl
    · cases hc
  · cases hc
theorem op_fa {t : TypeId} {x : Operand} {f : Nat} (hc : compOp P ⟨dst, .fieldAddr t x f, ty, pos, af, gd⟩ = some c) (hρ : Hρ m T ρ (.fieldAddr t x f)) (E : Emb P K B m s w) (hk : runOpK P T s c k = true) : OpDone P K B m w k ((execOp ρ ⟨dst, .fieldAddr t x f, ty, pos, af, gd⟩).run P w) := by
  simp only [compOp] at hc
  split at hc
  · rename_i fs X h1 h2
    split at hc
    · rename_i fd h3
      split at hc
      · rename_i i h4
        cases h0 : Nat.beq i.size 0 with
        | true => rw [h0] at hc; cases hc
        | false =>
          rw [h0] at hc
          cases hc
          obtain ⟨vx, hx, hk1⟩ := valK_inv (k := fun x => faK x fd.offset (vK s k)) hk
          have h0' : i.size ≠ 0 := by
            intro e
            rw [e] at h0
            cases h0
          exact OpDone.ofK E (fa_ok (w := w) h1 h3 h4 h0' (hρ x (by simp [Op.operands]) X vx h2 hx) hk1) rfl
      · cases hc
    · cases hc
  · cases hc
theorem op_fld {t : TypeId} {x : Operand} {f : Nat} (hc : compOp P ⟨dst, .field t x f, ty, pos, af, gd⟩ = some c) (hρ : Hρ m T ρ (.field t x f)) (E : Emb P K B m s w) (hk : runOpK P T s c k = true) : OpDone P K B m w k ((execOp ρ ⟨dst, .field t x f, ty, pos, af, gd⟩).run P w) := by
  simp only [compOp] at hc
  split at hc
  · rename_i fs X h1 h2
    split at hc
    · rename_i fd h3
      obtain ⟨n, h4, rfl⟩ := Option.map_eq_some_iff.1 hc
      obtain ⟨vx, hx, hk1⟩ := valK_inv (k := fun x => onAgg x (fun l => partK l fd.offset n (vK s k))) hk
      exact OpDone.ofK E (fld_ok (w := w) h1 h3 h4 (hρ x (by simp [Op.operands]) X vx h2 hx) hk1) rfl
    · cases hc
  · cases hc
theorem op_ia {t : TypeId} {x y : Operand} (hc : compOp P ⟨dst, .indexAddr t x y, ty, pos, af, gd⟩ = some c) (hρ : Hρ m T ρ (.indexAddr t x y)) (E : Emb P K B m s w) (hk : runOpK P T s c k = true) : OpDone P K B m w k ((execOp ρ ⟨dst, .indexAddr t x y, ty, pos, af, gd⟩).run P w) := by
  simp only [compOp] at hc
  split at hc
  · rename_i e X Y h1 h2 h3
    obtain ⟨i, h4, rfl⟩ := Option.map_eq_some_iff.1 hc
    obtain ⟨vx, hx, hk1⟩ := valK_inv (k := fun x => valK T Y (fun j => iaK x j i.size (vK s k))) hk
    obtain ⟨vy, hy, hk2⟩ := valK_inv hk1
    exact OpDone.ofK E (ia_ok (w := w) h1 h4 (hρ x (by simp [Op.operands]) X vx h2 hx) (hρ y (by simp [Op.operands]) Y vy h3 hy) hk2) rfl
  · rename_i n e X Y h1 h2 h3
    obtain ⟨i, h4, rfl⟩ := Option.map_eq_some_iff.1 hc
    obtain ⟨vx, hx, hk1⟩ := valK_inv (k := fun x => valK T Y (fun j => iaaK x j n i.size (vK s k))) hk
    obtain ⟨vy, hy, hk2⟩ := valK_inv hk1
    exact OpDone.ofK E (iaa_ok (w := w) h1 h4 (hρ x (by simp [Op.operands]) X vx h2 hx) (hρ y (by simp [Op.operands]) Y vy h3 hy) hk2) rfl
  · cases hc
theorem op_ix {t : TypeId} {x y : Operand} (hc : compOp P ⟨dst, .index t x y, ty, pos, af, gd⟩ = some c) (hρ : Hρ m T ρ (.index t x y)) (E : Emb P K B m s w) (hk : runOpK P T s c k = true) : OpDone P K B m w k ((execOp ρ ⟨dst, .index t x y, ty, pos, af, gd⟩).run P w) := by
  simp only [compOp] at hc
  split at hc
  · rename_i n e X Y h1 h2 h3
    split at hc
    · rename_i i q h4 h5
      cases hc
      obtain ⟨vx, hx, hk1⟩ := valK_inv (k := fun x => valK T Y (fun j => ixK x j n i.size q (vK s k))) hk
      obtain ⟨vy, hy, hk2⟩ := valK_inv hk1
      exact OpDone.ofK E (ix_ok (w := w) h1 h4 h5 (hρ x (by simp [Op.operands]) X vx h2 hx) (hρ y (by simp [Op.operands]) Y vy h3 hy) hk2) rfl
    · cases hc
  · rename_i X Y h1 h2 h3
    cases hc
    obtain ⟨vx, hx, hk1⟩ := valK_inv (k := fun x => valK T Y (fun i => oK s k (evIxs P t x i))) hk
    obtain ⟨vy, hy, hk2⟩ := valK_inv hk1
    obtain ⟨r, hr, hk3⟩ := oK_inv hk2
    unfold evIxs at hr
    obtain ⟨hf, hr⟩ := sel_inv hr
    simp only [Bool.and_eq_true] at hf
    obtain ⟨h4, h5⟩ := flatR_inv hr
    have ex := VR.same vx hf.1 (hρ x (by simp [Op.operands]) X vx h2 hx)
    have ey := VR.same vy hf.2 (hρ y (by simp [Op.operands]) Y vy h3 hy)
    refine OpDone.ofK E ⟨r, hk3, r, ?_, VR.flat r h5⟩ (e := Instr.index t (ρ x) (ρ y)) rfl
    rw [ex, ey]
    exact pureVal_run h4 w
  · cases hc
theorem op_ext {x : Operand} {i : Nat} (hc : compOp P ⟨dst, .extract x i, ty, pos, af, gd⟩ = some c) (hρ : Hρ m T ρ (.extract x i)) (E : Emb P K B m s w) (hk : runOpK P T s c k = true) : OpDone P K B m w k ((execOp ρ ⟨dst, .extract x i, ty, pos, af, gd⟩).run P w) := by
  simp only [compOp] at hc
  obtain ⟨X, h1, rfl⟩ := Option.map_eq_some_iff.1 hc
  obtain ⟨v, hv, hk1⟩ := valK_inv (k := fun x => onTuple x (fun l => nthK l i (vK s k))) hk
  exact OpDone.ofK E (ext_ok (w := w) (hρ x (by simp [Op.operands]) X v h1 hv) hk1) rfl
theorem opt_mem {lo : Option Operand} {x : Operand} : lo = some x → x ∈ lo.toArray := by rintro rfl; simp
theorem sliceAt_run {t : TypeId} {d : TypeDesc} {u : Value} {lo hi mx : Option Value} (ht : P.underlying t = some d) (hd : ∀ n e, d ≠ .array n e) : (Instr.sliceAt t u lo hi mx).run P w = (Instr.slice t u lo hi mx).run P w := by
  unfold Instr.sliceAt
  cases d with
  | array n e => exact absurd rfl (hd _ _)
  | _ => simp only [Sem.run_bind, run_und ht, Result.andThen_ok]
theorem VO.flat_same {v u : Option Value} (h : VO m v u) (hf : flatO v = true) : u = v := by
  cases v with
  | none => simpa only [VO] using h
  | some v =>
    simp only [VO] at h
    obtain ⟨u', rfl, h⟩ := h
    rw [VR.same v hf h]
theorem op_slc {t : TypeId} {x : Operand} {lo hi mx : Option Operand} (hc : compOp P ⟨dst, .slice t x lo hi mx, ty, pos, af, gd⟩ = some c) (hρ : Hρ m T ρ (.slice t x lo hi mx)) (E : Emb P K B m s w) (hk : runOpK P T s c k = true) : OpDone P K B m w k ((execOp ρ ⟨dst, .slice t x lo hi mx, ty, pos, af, gd⟩).run P w) := by
  have q0 : ∀ X v, cx x = some X → XV T X v → VR m v (ρ x) := fun X v => hρ x (by simp [Op.operands]) X v
  have q1 : ∀ y, lo = some y → ∀ X v, cx y = some X → XV T X v → VR m v (ρ y) := fun y h X v => hρ y (by subst h; simp [Op.operands]) X v
  have q2 : ∀ y, hi = some y → ∀ X v, cx y = some X → XV T X v → VR m v (ρ y) := fun y h X v => hρ y (by subst h; simp [Op.operands]) X v
  have q3 : ∀ y, mx = some y → ∀ X v, cx y = some X → XV T X v → VR m v (ρ y) := fun y h X v => hρ y (by subst h; simp [Op.operands]) X v
  simp only [compOp] at hc
  split at hc
  · rename_i e X lo' hi' mx' h1 h2 h3 h4 h5
    split at hc
    · rename_i i h6
      obtain ⟨h7, hc⟩ := sel_inv hc
      cases hc
      obtain ⟨vx, hx, hk1⟩ := valK_inv (k := fun x => valOK T lo' (fun lo => valOK T hi' (fun hi => valOK T mx' (fun mx => slcK s e i.size x lo hi mx (vK s k))))) hk
      obtain ⟨vl, hl, hk2⟩ := valOK_inv hk1
      obtain ⟨vh, hh, hk3⟩ := valOK_inv hk2
      obtain ⟨vm, hm, hk4⟩ := valOK_inv hk3
      unfold slcK at hk4
      obtain ⟨r, hr, hk5⟩ := optK_inv hk4
      rw [forceV_eq] at hk5
      have hx' : vm.isNone = true ∨ vh.isSome = true := by
        rcases (by simpa using h7 : mx' = none ∨ hi'.isSome = true) with h | h
        · subst h
          simp only [XO] at hm
          subst hm
          exact .inl rfl
        · obtain ⟨Y, rfl⟩ := Option.isSome_iff_exists.1 h
          simp only [XO] at hh
          obtain ⟨v, rfl, _⟩ := hh
          exact .inr rfl
      obtain ⟨r', hr', hv⟩ := slc_ok h1 h6 hx' E (q0 X vx h2 hx) (cxo_ok h3 hl q1) (cxo_ok h4 hh q2) (cxo_ok h5 hm q3) hr
      exact OpDone.ofK E ⟨r, hk5, r', by rw [sliceAt_run h1 (by simp)]; exact hr', hv⟩ (e := Instr.sliceAt t (ρ x) (lo.map ρ) (hi.map ρ) (mx.map ρ)) rfl
    · cases hc
  · rename_i X lo' hi' mx' h1 h2 h3 h4 h5
    cases hc
    obtain ⟨vx, hx, hk1⟩ := valK_inv (k := fun x => valOK T lo' (fun lo => valOK T hi' (fun hi => valOK T mx' (fun mx => oK s k (evSlcn P t x lo hi mx))))) hk
    obtain ⟨vl, hl, hk2⟩ := valOK_inv hk1
    obtain ⟨vh, hh, hk3⟩ := valOK_inv hk2
    obtain ⟨vm, hm, hk4⟩ := valOK_inv hk3
    obtain ⟨r, hr, hk5⟩ := oK_inv hk4
    unfold evSlcn at hr
    obtain ⟨hf, hr⟩ := sel_inv hr
    simp only [Bool.and_eq_true] at hf
    obtain ⟨h6, h7⟩ := flatR_inv hr
    have e0 := VR.same vx hf.1.1.1 (q0 X vx h2 hx)
    have e1 := VO.flat_same (cxo_ok h3 hl q1) hf.1.1.2
    have e2 := VO.flat_same (cxo_ok h4 hh q2) hf.1.2
    have e3 := VO.flat_same (cxo_ok h5 hm q3) hf.2
    refine OpDone.ofK E ⟨r, hk5, r, ?_, VR.flat r h7⟩ (e := Instr.sliceAt t (ρ x) (lo.map ρ) (hi.map ρ) (mx.map ρ)) rfl
    rw [sliceAt_run h1 (by simp), e0, e1, e2, e3]
    exact pureVal_run h6 w
  · cases hc

theorem parts_ok {T : BT Value} {ps : Array (Nat × Operand)} {place : Nat → Option (Nat × Nat)} {xs : List (Nat × Nat × X)} {vs : List (Nat × Nat × Value)} (hc : cparts place ps.toList = some xs) (hx : XPs T xs vs) (hρ : ∀ x ∈ (ps.toList.map (·.2)).toArray, ∀ X v, cx x = some X → XV T X v → VR m v (ρ x)) : PR m place vs (ps.toList.map fun (p : Nat × Operand) => (p.1, ρ p.2)) :=
  PR_of hc hx (fun p hp x v h => hρ p.2 (by simp; exact ⟨p.1, by simpa using hp⟩) x v h)
theorem op_lit {t : TypeId} {n : Nat} {ps : Array (Nat × Operand)} (hc : compOp P ⟨dst, .buildSlice t n ps, ty, pos, af, gd⟩ = some c) (hρ : Hρ m T ρ (.buildSlice t n ps)) (E : Emb P K B m s w) (hk : runOpK P T s c k = true) : OpDone P K B m w k ((execOp ρ ⟨dst, .buildSlice t n ps, ty, pos, af, gd⟩).run P w) := by
  simp only [compOp] at hc
  split at hc
  · rename_i e h1
    split at hc
    · rename_i i z h2 h3
      split at hc
      · rename_i xs h4
        obtain ⟨h5, hc⟩ := sel_inv hc
        cases hc
        simp only [Bool.and_eq_true, Nat.ble_eq] at h5
        obtain ⟨⟨⟨h5, h6⟩, h7⟩, h8⟩ := h5
        obtain ⟨vs, hv, hk1⟩ := partsK_inv (k := fun ps => litK s e n (n * i.size) (repeatN z.toList n) ps k) hk
        have := lit_ok h1 h2 h3 (by simpa using h6) h7 h8 E (parts_ok h4 hv hρ) (inN_of h5 hv) hk1
        refine OpDone.of this ?_
        show _ = (do pure (Next.value (← Instr.buildSlice t n ⟨ps.toList.map fun (p : Nat × Operand) => (p.1, ρ p.2)⟩)))
        rw [← map_parts]
        rfl
      · cases hc
    · cases hc
  · cases hc
theorem op_build {t : TypeId} {ps : Array (Nat × Operand)} (hc : compOp P ⟨dst, .build t ps, ty, pos, af, gd⟩ = some c) (hρ : Hρ m T ρ (.build t ps)) (E : Emb P K B m s w) (hk : runOpK P T s c k = true) : OpDone P K B m w k ((execOp ρ ⟨dst, .build t ps, ty, pos, af, gd⟩).run P w) := by
  have he : execOp ρ ⟨dst, .build t ps, ty, pos, af, gd⟩ = (do pure (Next.value (← Instr.build t ⟨ps.toList.map fun (p : Nat × Operand) => (p.1, ρ p.2)⟩))) := by
    rw [← map_parts]
    rfl
  have hz0 : ∀ {z}, zeroOf P t = some z → ∃ v, (zeroValue t).run P w = .ok v w ∧ v.cells = z := by
    intro z hz
    obtain ⟨i, v, hi, hv, hvz, _, _⟩ := zeroOf_inv hz
    exact ⟨v, by simp [zeroValue, run_typeInfo hi, hv], hvz⟩
  simp only [compOp] at hc
  split at hc
  · rename_i z fs h1 h2
    split at hc
    · rename_i xs h4
      obtain ⟨h5, hc⟩ := sel_inv hc
      cases hc
      simp only [Bool.and_eq_true, List.all_eq_true] at h5
      obtain ⟨vs, hv, hk1⟩ := partsK_inv (k := fun ps => buildK z.toList ps (vK s k)) hk
      refine OpDone.ofK E (build_ok (w := w) h1 (fun cs hf => ?_) (parts_ok h4 hv hρ) (inN_of h5.1 hv) hk1) he
      obtain ⟨v, hz, hvz⟩ := hz0 h1
      unfold Instr.build
      rw [Sem.run_bind, hz]
      simp only [Result.andThen_ok]
      rw [Sem.run_bind, run_und h2]
      simp only [Result.andThen_ok]
      rw [Sem.run_bind, fields_run w fs h5.2]
      simp only [Result.andThen_ok]
      rw [place_eq h5.2, hvz, hf]
      rfl
    · cases hc
  · rename_i z n e h1 h2
    split at hc
    · rename_i i h3
      split at hc
      · rename_i xs h4
        obtain ⟨h5, hc⟩ := sel_inv hc
        cases hc
        obtain ⟨vs, hv, hk1⟩ := partsK_inv (k := fun ps => buildK z.toList ps (vK s k)) hk
        refine OpDone.ofK E (build_ok (w := w) h1 (fun cs hf => ?_) (parts_ok h4 hv hρ) (inN_of h5 hv) hk1) he
        obtain ⟨v, hz, hvz⟩ := hz0 h1
        unfold Instr.build
        rw [Sem.run_bind, hz]
        simp only [Result.andThen_ok]
        rw [Sem.run_bind, run_und h2]
        simp only [Result.andThen_ok]
        rw [Sem.run_bind, run_sizeOf h3]
        simp only [Result.andThen_ok]
        rw [hvz, hf]
        rfl
      · cases hc
    · cases hc
  · cases hc
end
end Go.Proofs.YtpedbdicjgdgkaaGreat.Ev

/- The builtins, turned and run, do what the program's do. No program here. -/
namespace Go.Proofs.YtpedbdicjgdgkaaGreat.Ev
open Go Go.RowKit

section
variable {P : Program} {K : Kp} {B : Nat} {m : Mp} {s : St} {w : World} {T : BT Value} {ρ : Operand → Value} {k : Value → St → Bool} {dst : Option Tmp} {ty : TypeId} {pos : String} {af : Array Edge} {gd : Option (Nat × Bool)} {c : COp}

theorem exec_bi (b : Builtin) (args : Array Operand) (ts : Array TypeId) : ∃ cs, execOp ρ ⟨dst, .call ⟨.builtin b, args, ts⟩, ty, pos, af, gd⟩ = builtin b ts ty cs ⟨args.toList.map ρ⟩ :=
  ⟨args.map fun | .const _ => true | _ => false, by rw [← map_list]; rfl⟩
theorem get0 {ts : Array TypeId} {d : TypeDesc} {j : Nat} (h : (ts[j]?).bind P.underlying = some d) : ∃ t0, ts[j]? = some t0 ∧ P.underlying t0 = some d := by
  cases h0 : ts[j]? with
  | none => rw [h0] at h; cases h
  | some t0 => rw [h0] at h; exact ⟨t0, rfl, h⟩
theorem bi_done (E : Emb P K B m s w) {b : Builtin} {args : Array Operand} {ts : Array TypeId} {xs : List X} (hb : ∀ cs l, builtin b ts ty cs l = builtin b ts ty #[] l) (hxs : cxs args.toList = some xs) (hρ : Hρ m T ρ (.call ⟨.builtin b, args, ts⟩))
    (hk : valsK T xs (fun l => oK s k (evBi P b ts ty l)) = true) : OpDone P K B m w k ((execOp ρ ⟨dst, .call ⟨.builtin b, args, ts⟩, ty, pos, af, gd⟩).run P w) := by
  obtain ⟨vs, hv, hk1⟩ := valsK_inv hk
  obtain ⟨r, hr, hk2⟩ := oK_inv hk1
  unfold evBi at hr
  obtain ⟨hf, hr⟩ := sel_inv hr
  obtain ⟨h1, h2⟩ := flatR_inv hr
  have e1 := LR.same vs hf (cxs_ok hxs hv (fun x hx X v => hρ x (by simp only [Op.operands, Call.operands]; simpa using hx) X v))
  obtain ⟨cs, e2⟩ := exec_bi (ρ := ρ) (dst := dst) (ty := ty) (pos := pos) (af := af) (gd := gd) b args ts
  have h3 : pureVal P (builtin b ts ty #[] ⟨vs⟩) = some (.value r) := by
    cases hp : pureVal P (builtin b ts ty #[] ⟨vs⟩) with
    | none => rw [hp] at h1; cases h1
    | some n =>
      rw [hp] at h1
      cases n with
      | value v => simp only [nextV, Option.some.injEq] at h1; rw [h1]
      | _ => cases h1
  refine OpDone.keep E hk2 (VR.flat r h2) ?_
  rw [e2, e1, hb]
  exact pureVal_run h3 w
/-- A builtin that gives a value. -/
theorem OpDone.bi {e : Sem Value} {b : Builtin} {args : Array Operand} {ts : Array TypeId} (h : ∃ v s', k v s' = true ∧ ∃ m' w' u, e.run P w = .ok u w' ∧ m.le m' ∧ Emb P K B m' s' w' ∧ Below B w w' ∧ VR m' v u)
    (he : ∀ cs, builtin b ts ty cs ⟨args.toList.map ρ⟩ = (do pure (.value (← e)))) : OpDone P K B m w k ((execOp ρ ⟨dst, .call ⟨.builtin b, args, ts⟩, ty, pos, af, gd⟩).run P w) := by
  obtain ⟨cs, e2⟩ := exec_bi (ρ := ρ) (dst := dst) (ty := ty) (pos := pos) (af := af) (gd := gd) b args ts
  exact OpDone.of h (by rw [e2, he])
theorem op_bi {b : Builtin} {args : Array Operand} {ts : Array TypeId} (hc : compOp P ⟨dst, .call ⟨.builtin b, args, ts⟩, ty, pos, af, gd⟩ = some c) (hρ : Hρ m T ρ (.call ⟨.builtin b, args, ts⟩)) (E : Emb P K B m s w) (hk : runOpK P T s c k = true) :
    OpDone P K B m w k ((execOp ρ ⟨dst, .call ⟨.builtin b, args, ts⟩, ty, pos, af, gd⟩).run P w) := by
  have ho : ∀ x ∈ args.toList, ∀ X v, cx x = some X → XV T X v → VR m v (ρ x) := fun x hx X v => hρ x (by simp only [Op.operands, Call.operands]; simpa using hx) X v
  simp only [compOp] at hc
  split at hc
  · -- len
    rename_i x hl
    split at hc
    · rename_i e h1
      obtain ⟨X, h2, rfl⟩ := Option.map_eq_some_iff.1 hc
      obtain ⟨t0, h3, h4⟩ := get0 h1
      obtain ⟨v, hv, hk1⟩ := valK_inv (k := fun x => onSlice x (fun n _ => k (.int .i64 (.ofNat n)) s) (fun _ _ n _ => k (.int .i64 (.ofNat n)) s)) hk
      obtain ⟨r, hk2, hr, hv2⟩ := len_ok (w := w) (ty := ty) h3 h4 (ho x (by rw [hl]; simp) X v h2 hv) hk1
      exact OpDone.bi (e := Builtin.len_ ts ty #[ρ x]) ⟨r, s, hk2, m, w, r, hr, Mp.le_refl m, E, Below.refl B w, hv2⟩ (fun cs => by rw [hl]; rfl)
    · rename_i h1
      obtain ⟨X, h2, rfl⟩ := Option.map_eq_some_iff.1 hc
      exact bi_done E (fun cs l => rfl) (xs := [X]) (by rw [hl]; simp [cxs, h2]) hρ hk
    · cases hc
  · -- cap
    rename_i x hl
    split at hc
    · rename_i e h1
      obtain ⟨X, h2, rfl⟩ := Option.map_eq_some_iff.1 hc
      obtain ⟨t0, h3, h4⟩ := get0 h1
      obtain ⟨v, hv, hk1⟩ := valK_inv (k := fun x => oK s k (evCap x)) hk
      obtain ⟨r, hr, hk2⟩ := oK_inv hk1
      obtain ⟨hr2, hv2⟩ := cap_ok (w := w) (ty := ty) h3 h4 (ho x (by rw [hl]; simp) X v h2 hv) hr
      exact OpDone.bi (e := Builtin.cap_ ts ty #[ρ x]) ⟨r, s, hk2, m, w, r, hr2, Mp.le_refl m, E, Below.refl B w, hv2⟩ (fun cs => by rw [hl]; rfl)
    · cases hc
  · -- append
    rename_i x y hl
    split at hc
    · rename_i e d X Y h1 h2 h3 h4
      split at hc
      · rename_i i z h5 h6
        obtain ⟨h7, hc⟩ := sel_inv hc
        simp only [Bool.and_eq_true, Bool.not_eq_true'] at h7
        obtain ⟨t0, g1, g2⟩ := get0 h1
        obtain ⟨t1, g3, g4⟩ := get0 h2
        have hz : z.size = i.size := by simpa using h7.1
        have h0 : i.size ≠ 0 := by
          intro e
          have := h7.2
          rw [e] at this
          cases this
        have go : ∀ ints, ((ints = true ∧ ∃ q, d = .int q) ∨ (ints = false ∧ ∃ q, d = .slice q)) → runOpK P T s (.app e i.size i.bytes z.toList ints X Y) k = true → OpDone P K B m w k ((execOp ρ ⟨dst, .call ⟨.builtin .append, args, ts⟩, ty, pos, af, gd⟩).run P w) := by
          intro ints hd hk
          obtain ⟨v, hv, hk1⟩ := valK_inv (k := fun x => valK T Y (fun y => appK s e i.size i.bytes z.toList ints x y k)) hk
          obtain ⟨u, hu, hk2⟩ := valK_inv hk1
          exact OpDone.bi (e := Builtin.append_ ts ty #[ρ x, ρ y]) (app_ok g1 g2 g3 g4 hd h5 h6 hz h0 E (ho x (by rw [hl]; simp) X v h3 hv) (ho y (by rw [hl]; simp) Y u h4 hu) hk2) (fun cs => by rw [hl]; rfl)
        split at hc
        · cases hc; exact go true (.inl ⟨rfl, _, rfl⟩) hk
        · cases hc; exact go false (.inr ⟨rfl, _, rfl⟩) hk
        · cases hc
      · cases hc
    · cases hc
  · -- copy
    rename_i x y hl
    split at hc
    · rename_i e X Y h1 h3 h4
      obtain ⟨i, h5, rfl⟩ := Option.map_eq_some_iff.1 hc
      obtain ⟨t0, g1, g2⟩ := get0 h1
      obtain ⟨v, hv, hk1⟩ := valK_inv (k := fun x => valK T Y (fun y => copyK s i.size x y k)) hk
      obtain ⟨u, hu, hk2⟩ := valK_inv hk1
      obtain ⟨r, s', hk3, w', hr, hE, hB, hv2⟩ := copy_ok (ty := ty) g1 g2 h5 E (ho x (by rw [hl]; simp) X v h3 hv) (ho y (by rw [hl]; simp) Y u h4 hu) hk2
      exact OpDone.bi (e := Builtin.copy_ ts ty #[ρ x, ρ y]) ⟨r, s', hk3, m, w', r, hr, Mp.le_refl m, hE, hB, hv2⟩ (fun cs => by rw [hl]; rfl)
    · cases hc
  · -- clear
    rename_i x hl
    split at hc
    · rename_i e X h1 h3
      split at hc
      · rename_i i z h5 h6
        obtain ⟨h7, hc⟩ := sel_inv hc
        cases hc
        obtain ⟨t0, g1, g2⟩ := get0 h1
        obtain ⟨v, hv, hk1⟩ := valK_inv (k := fun x => clearK s i.size z.toList x k) hk
        obtain ⟨s', hk3, w', hr, hE, hB⟩ := clear_ok (ty := ty) g1 g2 h5 h6 (by simpa using h7) E (ho x (by rw [hl]; simp) X v h3 hv) hk1
        exact OpDone.bi (e := Builtin.clear_ ts ty #[ρ x]) ⟨_, s', hk3, m, w', _, hr, Mp.le_refl m, hE, hB, VR.flat _ rfl⟩ (fun cs => by rw [hl]; rfl)
      · cases hc
    · cases hc
  · rename_i hn1
    obtain ⟨xs, h2, rfl⟩ := Option.map_eq_some_iff.1 hc
    exact bi_done E (fun cs l => rfl) h2 hρ hk
  · obtain ⟨xs, h2, rfl⟩ := Option.map_eq_some_iff.1 hc
    exact bi_done E (fun cs l => rfl) h2 hρ hk
  · cases hc

/-- An operation that is no call of a function. -/
def noCall : Op → Bool
  | .call { callee := .value _, .. } => false
  | _ => true
/-- Every operation that is taken, calls apart. -/
theorem op_all {op : Op} (hn : noCall op = true) (hc : compOp P ⟨dst, op, ty, pos, af, gd⟩ = some c) (hρ : Hρ m T ρ op) (E : Emb P K B m s w) (hk : runOpK P T s c k = true) : OpDone P K B m w k ((execOp ρ ⟨dst, op, ty, pos, af, gd⟩).run P w) := by
  cases op with
  | move x => exact op_move (.inl rfl) hc hρ E hk
  | assign x => exact op_move (.inr rfl) hc hρ E hk
  | pick => exact op_pick hc hρ E hk
  | alloc => exact op_alloc hc E hk
  | box => exact op_box hc hρ E hk
  | build => exact op_build hc hρ E hk
  | buildSlice => exact op_lit hc hρ E hk
  | load => exact op_load hc hρ E hk
  | store => exact op_store hc hρ E hk
  | nilCheck => exact op_nilc hc hρ E hk
  | binOp => exact op_bin hc hρ E hk
  | unOp => exact op_un hc hρ E hk
  | convert => exact op_conv hc hρ E hk
  | makeInterface => exact op_mini hc hρ E hk
  | makeFunc fn => cases fn with
    | func f => exact op_fn hc hρ E hk
    | _ => cases hc
  | makeSlice => exact op_mks hc hρ E hk
  | slice => exact op_slc hc hρ E hk
  | fieldAddr => exact op_fa hc hρ E hk
  | field => exact op_fld hc hρ E hk
  | indexAddr => exact op_ia hc hρ E hk
  | index => exact op_ix hc hρ E hk
  | typeAssert => exact op_tas hc hρ E hk
  | extract => exact op_ext hc hρ E hk
  | call cl =>
    obtain ⟨ce, args, ts⟩ := cl
    cases ce with
    | builtin b => exact op_bi hc hρ E hk
    | value f => cases hn
    | invoke => cases hc
  | _ => cases hc
end
end Go.Proofs.YtpedbdicjgdgkaaGreat.Ev
