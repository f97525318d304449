import Derived.Test.YtpedbdicjgdgkaaGreatZb06
set_option linter.unusedVariables false
set_option linter.unusedSimpArgs false
/- What each operation does: new objects, addresses, parts. No program here. -/
namespace Go.Proofs.YtpedbdicjgdgkaaGreat.Ev
open Go Go.RowKit

theorem zeroOf_inv {P : Program} {t : TypeId} {z : Array Value} (h : zeroOf P t = some z) : ∃ i v, P.info? t = some i ∧ i.zero = some v ∧ v.cells = z ∧ flatL z.toList = true ∧ ∀ u ∈ z.toList, oneCell u = true := by
  unfold zeroOf at h
  cases hi : P.info? t with
  | none => simp [hi] at h
  | some i =>
    cases hz : i.zero with
    | none => simp [hi, hz] at h
    | some v =>
      simp only [hi, hz, sel] at h
      cases hc : flatA v.cells && v.cells.toList.all oneCell with
      | false => rw [hc] at h; cases h
      | true =>
        rw [hc] at h
        simp only [Option.some.injEq] at h
        subst h
        simp only [Bool.and_eq_true, List.all_eq_true] at hc
        refine ⟨i, v, rfl, hz, rfl, ?_, hc.2⟩
        have := hc.1
        cases hv : v.cells with
        | mk l => rw [hv] at this; exact this
theorem run_zero {P : Program} {t : TypeId} {i : TypeInfo} {v : Value} (hi : P.info? t = some i) (hz : i.zero = some v) (w : World) : (zeroValue t).run P w = .ok v w := by
  simp [zeroValue, run_typeInfo hi, hz]

theorem adds_get {α : Type} : ∀ (l : List α) (t : BT α) (n : Nat) (j : Nat) (v : α), (t.adds n l).get j = some v → (∀ i, n ≤ i → t.get i = none) → (n ≤ j → l[j - n]? = some v) ∧ (j < n → t.get j = some v) := by
  have add_get : ∀ (t : BT α) (n j : Nat) (x v : α), (t.add n x).get j = some v → (j = n ∧ v = x ∧ t.get n = none) ∨ t.get j = some v := by
    intro t
    induction t with
    | leaf =>
      intro n j x v h
      unfold BT.add at h
      by_cases h0 : n = 0
      · rw [if_pos h0] at h
        unfold BT.get at h
        by_cases hj : j = 0
        · rw [if_pos hj] at h; cases h; exact .inl ⟨by omega, rfl, rfl⟩
        · rw [if_neg hj] at h; split at h <;> simp [BT.get] at h
      · rw [if_neg h0] at h; simp [BT.get] at h
    | node a l r il ir =>
      intro n j x v h
      unfold BT.add at h
      by_cases h0 : n = 0
      · rw [if_pos h0] at h; exact .inr h
      · rw [if_neg h0] at h
        by_cases h1 : n % 2 = 1
        · rw [if_pos h1] at h
          simp only [BT.get] at h ⊢
          by_cases hj : j = 0
          · rw [if_pos hj] at h ⊢; exact .inr h
          · rw [if_neg hj] at h ⊢
            by_cases hj1 : j % 2 = 1
            · rw [if_pos hj1] at h ⊢
              rcases il _ _ _ _ h with ⟨e, rfl, hn⟩ | h
              · refine .inl ⟨by omega, rfl, ?_⟩
                rw [if_neg h0, if_pos h1]; exact hn
              · exact .inr h
            · rw [if_neg hj1] at h ⊢; exact .inr h
        · rw [if_neg h1] at h
          simp only [BT.get] at h ⊢
          by_cases hj : j = 0
          · rw [if_pos hj] at h ⊢; exact .inr h
          · rw [if_neg hj] at h ⊢
            by_cases hj1 : j % 2 = 1
            · rw [if_pos hj1] at h ⊢; exact .inr h
            · rw [if_neg hj1] at h ⊢
              rcases ir _ _ _ _ h with ⟨e, rfl, hn⟩ | h
              · refine .inl ⟨by omega, rfl, ?_⟩
                rw [if_neg h0, if_neg h1]; exact hn
              · exact .inr h
  intro l
  induction l with
  | nil =>
    intro t n j v h hn
    refine ⟨fun hj => ?_, fun _ => h⟩
    have := hn j hj
    simp only [BT.adds] at h
    rw [h] at this; cases this
  | cons x l ih =>
    intro t n j v h hn
    simp only [BT.adds] at h
    have hn' : ∀ i, n + 1 ≤ i → (t.add n x).get i = none := by
      intro i hi
      cases hg : (t.add n x).get i with
      | none => rfl
      | some u =>
        rcases add_get t n i x u hg with ⟨e, _⟩ | h2
        · omega
        · rw [hn i (by omega)] at h2; cases h2
    obtain ⟨h1, h2⟩ := ih (t.add n x) (n + 1) j v h hn'
    refine ⟨fun hj => ?_, fun hj => ?_⟩
    · by_cases he : j = n
      · subst he
        rcases add_get t j j x v (h2 (by omega)) with ⟨_, rfl, _⟩ | h3
        · simp
        · rw [hn j (Nat.le_refl _)] at h3; cases h3
      · have := h1 (by omega)
        rw [show j - n = (j - (n + 1)) + 1 by omega, List.getElem?_cons_succ]
        exact this
    · rcases add_get t n j x v (h2 (by omega)) with ⟨e, _⟩ | h3
      · omega
      · exact h3
theorem ofList_get {α : Type} {l : List α} {j : Nat} {v : α} (h : (BT.ofList l).get j = some v) : l[j]? = some v := by
  have := (adds_get l .leaf 0 j v h (fun _ _ => rfl)).1 (Nat.zero_le _)
  simpa using this

/-- A row whose cells stand for those of a list. -/
theorem row_new {P : Program} {m : Mp} {i N e : Nat} {c : BT Value} {l l' : List Value} (hc : ∀ j v, c.get j = some v → l[j]? = some v) (hl : LR m l l') (h1 : ∀ v ∈ l, oneCell v = true) (hN : N = l.length) : OR P m i (.cells N c e false) (.cells ⟨l'⟩ e (0, 0)) := by
  have := LR.length hl
  refine ⟨_, rfl, by show N ≤ l'.length; omega, fun j v hj => ?_, by simp, fun j v hj => ⟨h1 v (List.mem_of_getElem? (hc j v hj)), by rw [hN]; exact (List.getElem?_eq_some_iff.1 (hc j v hj)).1⟩⟩
  obtain ⟨v', h1, h2⟩ := LR.get hl (hc j v hj)
  exact ⟨v', by simpa using h1, h2⟩

/-- A new row, and its address. -/
theorem new_ok {P : Program} {K : Kp} {B : Nat} {m : Mp} {s : St} {w : World} (E : Emb P K B m s w) {o : CObj} {o' : Obj} {k : St → Bool} (y : Nat) (hr : OR P (m.put s.n w.heap.size y) s.n o o') (hk : newK s o k = true) :
    ∃ s', k s' = true ∧ Emb P K B (m.put s.n w.heap.size y) s' (w.alloc o') ∧ Below B w (w.alloc o') ∧ m.le (m.put s.n w.heap.size y) ∧ s'.n = s.n + 1 := by
  obtain ⟨h', hk, _, hg⟩ := newK_inv hk
  exact ⟨_, hk, E.new y hg hr, below_alloc E.base o', Mp.put_le E.none, rfl⟩

theorem alloc_ok {P : Program} {K : Kp} {B : Nat} {m : Mp} {s : St} {w : World} {t : TypeId} {z : Array Value} {k : Value → St → Bool} (hz : zeroOf P t = some z) (E : Emb P K B m s w)
    (hk : nOf s (fun g => newK s (.cells z.size (.ofList z.toList) t false) (k (ptr g))) = true) :
    ∃ v s', k v s' = true ∧ ∃ m' w' u, (Instr.alloc t true (.tuple #[])).run P w = .ok u w' ∧ m.le m' ∧ Emb P K B m' s' w' ∧ Below B w w' ∧ VR m' v u := by
  obtain ⟨i, v, hi, hv, rfl, hf, h1⟩ := zeroOf_inv hz
  have hk := nOf_inv hk
  have hr : OR P (m.put s.n w.heap.size 0) s.n (.cells v.cells.size (.ofList v.cells.toList) t false) (.cells v.cells t (0, 0)) := by
    have := row_new (P := P) (m := m.put s.n w.heap.size 0) (i := s.n) (N := v.cells.size) (e := t) (fun j u h => ofList_get h) (LR.flat v.cells.toList hf) h1 (by simp)
    simpa using this
  obtain ⟨s', hk, hE, hB, hle, _⟩ := new_ok E 0 hr hk
  refine ⟨_, s', hk, _, _, .pointer (some ⟨w.heap.size, 0, none⟩), ?_, hle, hE, hB, ?_⟩
  · simp [Instr.alloc, run_zero hi hv, newVar, newRow]
  · simp only [ptr, VR]; exact ⟨trivial, _, _, Mp.put_same _ _ _ _, rfl⟩

theorem box_ok {P : Program} {K : Kp} {B : Nat} {m : Mp} {s : St} {w : World} {t : TypeId} {v u : Value} {k : Value → St → Bool} (E : Emb P K B m s w) (hv : VR m v u) (hk : boxK s t v k = true) :
    ∃ r s', k r s' = true ∧ ∃ m' w' r', (Instr.box t u).run P w = .ok r' w' ∧ m.le m' ∧ Emb P K B m' s' w' ∧ Below B w w' ∧ VR m' r r' := by
  have hk := nOf_inv hk
  rw [forceV_eq] at hk
  obtain ⟨l, hl⟩ : ∃ l, v.cells = ⟨l⟩ := ⟨v.cells.toList, rfl⟩
  rw [hl] at hk
  have hk0 : ifB (allOne l) (forceN (lenL l) (fun m => addsK .leaf 0 l (fun c => newK s (.cells m c t false) (k (ptr s.n))))) false = true := hk
  obtain ⟨hall, hk'⟩ := ifB_true hk0
  rw [forceN_eq] at hk'
  obtain ⟨c, hk', _, hc⟩ := addsK_inv hk'
  have hcells := hv.cells
  rw [hl] at hcells
  have hr : OR P (m.put s.n w.heap.size 0) s.n (.cells (lenL l) c t false) (.cells u.cells t (0, 0)) := by
    have := row_new (P := P) (m := m.put s.n w.heap.size 0) (i := s.n) (N := lenL l) (e := t) (c := c) (l := l) (fun j x h => by
      rw [hc] at h
      by_cases hj : 0 ≤ j ∧ j < 0 + l.length
      · rw [if_pos hj] at h; simpa using h
      · rw [if_neg hj] at h; simp [BT.get] at h) (LR.mono (Mp.put_le E.none) _ hcells) (allOne_eq l hall) (lenL_eq l)
    simpa using this
  obtain ⟨s', hk, hE, hB, hle, _⟩ := new_ok E 0 hr hk'
  refine ⟨_, s', hk, _, _, .pointer (some ⟨w.heap.size, 0, none⟩), ?_, hle, hE, hB, ?_⟩
  · simp [Instr.box, newVar, newRow]
  · simp only [ptr, VR]; exact ⟨trivial, _, _, Mp.put_same _ _ _ _, rfl⟩

theorem fa_ok {P : Program} {m : Mp} {w : World} {t : TypeId} {fs : Array Field} {f : Nat} {fd : Field} {i : TypeInfo} {v u : Value} {k : Value → Bool} (ht : P.underlying t = some (.struct fs)) (hf : fs[f]? = some fd) (hi : P.info? fd.type = some i)
    (h0 : i.size ≠ 0) (hv : VR m v u) (hk : faK v fd.offset k = true) : ∃ r, k r = true ∧ ∃ r', (Instr.fieldAt t u f).run P w = .ok r' w ∧ VR m r r' := by
  unfold faK at hk
  obtain ⟨b, o, hb, hk2⟩ := onPtr_inv hk
  subst hb
  obtain ⟨x, y, hm, rfl⟩ := hv.ptr_inv
  rw [forceN_eq] at hk2
  refine ⟨_, hk2, .pointer (some ⟨x, o + fd.offset, none⟩), ?_, by simp only [VR]; exact ⟨trivial, x, y, hm, rfl⟩⟩
  simp [Instr.fieldAt, run_und ht, hf, Instr.sureAddr, fieldPlace, run_sizeOf hi, h0, add_none]

theorem VR.slice_inv {m : Mp} {b o n c : Nat} {u : Value} (h : VR m (.slice (some ⟨b, o, none⟩) n c) u) :
    (c < OPEN ∧ ∃ x y, m b = some (x, y) ∧ u = .slice (some ⟨x, o, none⟩) n c) ∨ (OPEN ≤ c ∧ (c = OPEN ∨ n ≠ 0) ∧ ∃ x y, m b = some (x, y) ∧ u = .slice (some ⟨x, o, none⟩) n (y - (c - OPEN))) ∨ (OPEN < c ∧ n = 0 ∧ ∃ a c', u = .slice (some a) 0 c') := by
  simp only [VR] at h
  have h := h.2
  by_cases h1 : c < OPEN
  · rw [if_pos h1] at h; exact .inl ⟨h1, h⟩
  · rw [if_neg h1] at h
    by_cases h2 : c = OPEN ∨ n ≠ 0
    · rw [if_pos h2] at h; exact .inr (.inl ⟨by omega, h2, h⟩)
    · rw [if_neg h2] at h; exact .inr (.inr ⟨by omega, by omega, h⟩)
/-- One that has elements. -/
theorem VR.slice_pos {m : Mp} {b o n c : Nat} {u : Value} (h : VR m (.slice (some ⟨b, o, none⟩) n c) u) (hn : n ≠ 0) : ∃ x y c', m b = some (x, y) ∧ u = .slice (some ⟨x, o, none⟩) n c' := by
  rcases h.slice_inv with ⟨_, x, y, h1, h2⟩ | ⟨_, _, x, y, h1, h2⟩ | ⟨_, h0, _⟩
  · exact ⟨x, y, _, h1, h2⟩
  · exact ⟨x, y, _, h1, h2⟩
  · exact absurd h0 hn

theorem VR.int_inv {m : Mp} {i : IntKind} {n : Int} {u : Value} (h : VR m (.int i n) u) : u = .int i n := by simpa only [VR] using h

theorem ia_ok {P : Program} {m : Mp} {w : World} {t e : TypeId} {inf : TypeInfo} {v u i j : Value} {k : Value → Bool} (ht : P.underlying t = some (.slice e)) (hi : P.info? e = some inf)
    (hv : VR m v u) (hj : VR m i j) (hk : iaK v i inf.size k = true) : ∃ r, k r = true ∧ ∃ r', (Instr.indexAt t u j).run P w = .ok r' w ∧ VR m r r' := by
  rcases onSlice_inv hk with ⟨_, _, _, h⟩ | ⟨b, o, n, c, rfl, hk⟩
  · cases h
  obtain ⟨ki, x, rfl, hk⟩ := onNat_inv hk
  obtain ⟨hlt, hk⟩ := ifB_true hk
  have hlt' : x < n := by simpa [Nat.blt_eq] using hlt
  have hj' := hj.int_inv
  subst hj'
  obtain ⟨X, y, c', hm, rfl⟩ := hv.slice_pos (by omega)
  rw [forceN_eq] at hk
  refine ⟨_, hk, .pointer (some ⟨X, o + x * inf.size, none⟩), ?_, by simp only [VR]; exact ⟨trivial, X, y, hm, rfl⟩⟩
  have h1 : (0 : Int) ≤ Int.ofNat x ∧ Int.ofNat x < (n : Int) := ⟨Int.natCast_nonneg x, by simpa using hlt'⟩
  simp [Instr.indexAt, asIntOf, run_und ht, run_sizeOf hi, hlt', add_none]

theorem iaa_ok {P : Program} {m : Mp} {w : World} {t e len : Nat} {inf : TypeInfo} {v u i j : Value} {k : Value → Bool} (ht : P.underlying t = some (.array len e)) (hi : P.info? e = some inf)
    (hv : VR m v u) (hj : VR m i j) (hk : iaaK v i len inf.size k = true) : ∃ r, k r = true ∧ ∃ r', (Instr.indexAt t u j).run P w = .ok r' w ∧ VR m r r' := by
  unfold iaaK at hk
  obtain ⟨b, o, rfl, hk⟩ := onPtr_inv hk
  obtain ⟨X, y, hm, rfl⟩ := hv.ptr_inv
  obtain ⟨ki, x, rfl, hk⟩ := onNat_inv hk
  obtain ⟨hlt, hk⟩ := ifB_true hk
  have hlt' : x < len := by simpa [Nat.blt_eq] using hlt
  have hj' := hj.int_inv
  subst hj'
  rw [forceN_eq] at hk
  refine ⟨_, hk, .pointer (some ⟨X, o + x * inf.size, none⟩), ?_, by simp only [VR]; exact ⟨trivial, X, y, hm, rfl⟩⟩
  simp [Instr.indexAt, asIntOf, run_und ht, run_sizeOf hi, hlt', add_none, Instr.sureAddr]

theorem LR.drop_take {m : Mp} {l l' : List Value} (h : LR m l l') (i n : Nat) : LR m ((l.drop i).take n) ((l'.drop i).take n) := by
  have hl := LR.length h
  refine LR.of_get (by simp [hl]) (fun j v hj => ?_)
  rw [List.getElem?_take] at hj ⊢
  split at hj
  · rename_i hlt
    rw [if_pos hlt]
    rw [List.getElem?_drop] at hj ⊢
    exact LR.get h hj
  · cases hj

theorem part_ok {P : Program} {m : Mp} {w : World} {t : TypeId} {n : Option Nat} {l l' : List Value} {off : Nat} {k : Value → Bool} (hn : aggOf P t = some n) (hl : LR m l l') (hk : partK l off n k = true) :
    ∃ r, k r = true ∧ ∃ r', (part t ⟨l'⟩ off).run P w = .ok r' w ∧ VR m r r' := by
  cases n with
  | none =>
    obtain ⟨v, hv, hk⟩ := nthK_inv (l := l) (i := off) hk
    obtain ⟨v', h1, h2⟩ := LR.get hl hv
    refine ⟨v, hk, v', ?_, h2⟩
    simp [part, aggOf_none hn, h1]
  | some n =>
    have hk' : takeK l off n (fun l => k (.agg ⟨l⟩)) = true := hk
    obtain ⟨ha, hs⟩ := aggOf_some hn w
    refine ⟨_, takeK_eq hk', .agg ⟨(l'.drop off).take n⟩, ?_, by simp only [VR, AR]; exact ⟨_, rfl, _, rfl, hl.drop_take off n⟩⟩
    have he : (⟨l'⟩ : Array Value).extract off (off + n) = ⟨(l'.drop off).take n⟩ := by
      apply Array.ext'
      simp [Array.toList_extract, List.extract]
    simp [part, ha, hs, he]

theorem fld_ok {P : Program} {m : Mp} {w : World} {t : TypeId} {fs : Array Field} {f : Nat} {fd : Field} {n : Option Nat} {v u : Value} {k : Value → Bool} (ht : P.underlying t = some (.struct fs)) (hf : fs[f]? = some fd) (hn : aggOf P fd.type = some n)
    (hv : VR m v u) (hk : onAgg v (fun l => partK l fd.offset n k) = true) : ∃ r, k r = true ∧ ∃ r', (Instr.field t u f).run P w = .ok r' w ∧ VR m r r' := by
  obtain ⟨l, rfl, hk⟩ := onAgg_inv hk
  simp only [VR, AR] at hv
  obtain ⟨_, rfl, l', rfl, hl⟩ := hv
  obtain ⟨r, h1, r', h2, h3⟩ := part_ok (w := w) hn hl hk
  exact ⟨r, h1, r', by simp [Instr.field, run_und ht, hf, asAgg, h2], h3⟩

theorem ix_ok {P : Program} {m : Mp} {w : World} {t e len : Nat} {inf : TypeInfo} {n : Option Nat} {v u i j : Value} {k : Value → Bool} (ht : P.underlying t = some (.array len e)) (hi : P.info? e = some inf) (hn : aggOf P e = some n)
    (hv : VR m v u) (hj : VR m i j) (hk : ixK v i len inf.size n k = true) : ∃ r, k r = true ∧ ∃ r', (Instr.index t u j).run P w = .ok r' w ∧ VR m r r' := by
  unfold ixK at hk
  obtain ⟨l, rfl, hk⟩ := onAgg_inv hk
  simp only [VR, AR] at hv
  obtain ⟨_, rfl, l', rfl, hl⟩ := hv
  obtain ⟨ki, x, rfl, hk⟩ := onNat_inv hk
  obtain ⟨hlt, hk⟩ := ifB_true hk
  have hlt' : x < len := by simpa [Nat.blt_eq] using hlt
  have hj' := hj.int_inv
  subst hj'
  obtain ⟨r, h1, r', h2, h3⟩ := part_ok (w := w) hn hl hk
  refine ⟨r, h1, r', ?_, h3⟩
  have h2' : (part e ⟨l'⟩ (x * inf.size)).run P w = .ok r' w := h2
  simp [Instr.index, asIntOf, run_und ht, run_sizeOf hi, hlt', h2']

theorem ext_ok {P : Program} {m : Mp} {w : World} {i : Nat} {v u : Value} {k : Value → Bool} (hv : VR m v u) (hk : onTuple v (fun l => nthK l i k) = true) : ∃ r, k r = true ∧ ∃ r', (Instr.extract u i).run P w = .ok r' w ∧ VR m r r' := by
  obtain ⟨l, rfl, hk⟩ := onTuple_inv hk
  simp only [VR, AR] at hv
  obtain ⟨_, rfl, l', rfl, hl⟩ := hv
  obtain ⟨r, h1, hk⟩ := nthK_inv hk
  obtain ⟨r', h2, h3⟩ := LR.get hl h1
  exact ⟨r, hk, r', by simp [Instr.extract, h2], h3⟩

theorem pureVal_run {α : Type} {P : Program} : ∀ {e : Sem α} {a : α}, pureVal P e = some a → ∀ w, e.run P w = .ok a w := by
  intro e
  induction e with
  | pure a => intro b h w; simp [pureVal] at h; subst h; rfl
  | program k ih => intro b h w; exact ih P (by simpa [pureVal] using h) w
  | mark x k ih => intro b h w; exact ih (by simpa [pureVal] using h) w
  | _ => intro b h w; simp [pureVal] at h
theorem flatR_inv {x : Option Value} {v : Value} (h : flatR x = some v) : x = some v ∧ flat v = true := by
  cases x with
  | none => simp [flatR] at h
  | some u =>
    unfold flatR at h
    cases hu : flat u with
    | true => simp [sel, hu] at h; subst h; exact ⟨rfl, hu⟩
    | false => simp [sel, hu] at h
theorem ev1_ok {P : Program} {m : Mp} {w : World} {f : Value → Sem Value} {v u r : Value} (hv : VR m v u) (h : ev1 P f v = some r) : (f u).run P w = .ok r w ∧ VR m r r := by
  unfold ev1 at h
  cases hf : flat v with
  | false => simp [sel, hf] at h
  | true =>
    simp only [sel, hf] at h
    obtain ⟨h1, h2⟩ := flatR_inv h
    rw [VR.same v hf hv]
    exact ⟨pureVal_run h1 w, VR.flat r h2⟩
end Go.Proofs.YtpedbdicjgdgkaaGreat.Ev

/- What each operation does: arithmetic, comparisons, choices. No program here. -/
namespace Go.Proofs.YtpedbdicjgdgkaaGreat.Ev
open Go Go.RowKit

theorem kindEq_eq {a b : IntKind} (h : kindEq a b = true) : a = b := by cases a <;> cases b <;> first | rfl | (simp [kindEq] at h)
theorem intEq_eq (a b : Int) : intEq a b = (a == b) := by
  apply Bool.eq_iff_iff.2
  cases a <;> cases b <;> simp [intEq, Nat.beq_eq] <;> omega
theorem intLt_eq (a b : Int) : intLt a b = decide (a < b) := by
  apply Bool.eq_iff_iff.2
  cases a <;> cases b <;> simp [intLt, Nat.blt_eq] <;> omega
theorem wrapq_eq (k : IntKind) (n : Int) : wrapq k n = k.wrap n := by
  cases k <;> try rfl
  simp only [wrapq]
  cases hf : fits n with
  | false => rfl
  | true =>
    show n = IntKind.wrap .i64 n
    have hr : -9223372036854775808 ≤ n ∧ n < 9223372036854775808 := by
      cases n with
      | ofNat a => simp only [fits, Nat.blt_eq] at hf; show -9223372036854775808 ≤ (a : Int) ∧ (a : Int) < 9223372036854775808; constructor <;> omega
      | negSucc a => simp only [fits, Nat.blt_eq] at hf; constructor <;> omega
    have e1 : ((2 : Int) ^ IntKind.i64.bits) = 18446744073709551616 := by decide
    have e2 : ((2 : Int) ^ (IntKind.i64.bits - 1)) = 9223372036854775808 := by decide
    unfold IntKind.wrap
    simp only [e1, e2]
    have e3 : IntKind.i64.signed = true := rfl
    rw [e3]
    simp only [Bool.true_and, decide_eq_true_eq]
    split <;> omega

/-- No test is made ahead of the comparison. -/
theorem run_eqGuard {P : Program} {b : BinOp} {t : TypeId} {xo yo : Operand} {x y : Value} (h : noGuard x = true) (w : World) : (eqGuard b t xo yo x y).run P w = .ok () w := by
  unfold eqGuard
  cases b <;> simp <;> (cases x <;> simp_all [noGuard])
theorem intBin_ok {P : Program} {b : BinOp} {i : IntKind} {x y : Int} {v : Value} (h : intBin b i x y = some v) (t : TypeId) (w : World) : (binOp b t (.int i x) (.int i y)).run P w = .ok v w ∧ flat v = true := by
  have hd : ∀ (r : Value), sel (intEq y 0) none (some r) = some v → y ≠ 0 ∧ v = r := by
    intro r h
    rw [intEq_eq] at h
    by_cases hy : y = 0
    · subst hy; simp [sel] at h
    · have : (y == 0) = false := by simpa using hy
      rw [this] at h
      exact ⟨hy, (Option.some.inj h).symm⟩
  cases b with
  | quo =>
    obtain ⟨hy, rfl⟩ := hd _ h
    refine ⟨?_, rfl⟩
    simp [binOp, Op.intDiv, hy, wrapq_eq]
  | rem =>
    obtain ⟨hy, rfl⟩ := hd _ h
    refine ⟨?_, rfl⟩
    simp [binOp, Op.intDiv, hy]
  | and | or | xor | shl | shr | andNot => simp [intBin] at h
  | add | sub | mul =>
    simp only [intBin, wrapq_eq, Option.some.injEq] at h
    subst h
    exact ⟨by simp [binOp, Op.intArith], rfl⟩
  | eql | neq =>
    simp only [intBin, intEq_eq, Option.some.injEq] at h
    subst h
    exact ⟨by simp [binOp, Op.intCmp, bne], rfl⟩
  | lss | gtr =>
    simp only [intBin, intLt_eq, Option.some.injEq] at h
    subst h
    exact ⟨by simp [binOp, Op.intCmp], rfl⟩
  | leq | geq =>
    simp only [intBin, intLt_eq, Option.some.injEq] at h
    subst h
    exact ⟨by simp [binOp, Op.intCmp, ← decide_not], rfl⟩

theorem VR.slice_some {m : Mp} {a : Addr} {n c : Nat} {u : Value} (h : VR m (.slice (some a) n c) u) : ∃ a' n' c', u = .slice (some a') n' c' := by
  simp only [VR] at h
  have h := h.2
  by_cases h1 : c < OPEN
  · rw [if_pos h1] at h; obtain ⟨x, y, _, rfl⟩ := h; exact ⟨_, _, _, rfl⟩
  · rw [if_neg h1] at h
    by_cases h2 : c = OPEN ∨ n ≠ 0
    · rw [if_pos h2] at h; obtain ⟨x, y, _, rfl⟩ := h; exact ⟨_, _, _, rfl⟩
    · rw [if_neg h2] at h; obtain ⟨x, y, rfl⟩ := h; exact ⟨_, _, _, rfl⟩
theorem VR.slice_none {m : Mp} {n c : Nat} {u : Value} (h : VR m (.slice none n c) u) : u = .slice none n c := by simp only [VR] at h; exact h.2
theorem VR.ptr_some {m : Mp} {a : Addr} {u : Value} (h : VR m (.pointer (some a)) u) : ∃ a', u = .pointer (some a') := by
  simp only [VR] at h; obtain ⟨_, x, y, _, rfl⟩ := h; exact ⟨_, rfl⟩
theorem VR.func_inv {m : Mp} {f : Fn} {p c : Array Value} {u : Value} (h : VR m (.func f p c) u) : ∃ f' p' c', u = .func f' p' c' := by
  cases f with
  | func g => simp only [VR] at h; obtain ⟨p', c', rfl, _⟩ := h; exact ⟨_, _, _, rfl⟩
  | yield l => simp only [VR] at h; obtain ⟨x, y, p', c', _, rfl, _⟩ := h; exact ⟨_, _, _, rfl⟩
  | _ => simp [VR] at h
theorem nilKind_inv {P : Program} {t d : Nat} (hd : nilKind P t = d) (h0 : d ≠ 0) : ∃ D, P.underlying t = some D ∧ ((∃ e, D = .slice e ∧ d = 1) ∨ (∃ e, D = .pointer e ∧ d = 2) ∨ (∃ a b c, D = .func a b c ∧ d = 3) ∨ (∃ e, D = .interface e ∧ d = 4)) := by
  unfold nilKind at hd
  cases hu : P.underlying t with
  | none => rw [hu] at hd; exact absurd hd.symm h0
  | some D =>
    rw [hu] at hd
    refine ⟨D, rfl, ?_⟩
    cases D with
    | slice e => exact .inl ⟨e, rfl, hd.symm⟩
    | pointer e => exact .inr (.inl ⟨e, rfl, hd.symm⟩)
    | func a b c => exact .inr (.inr (.inl ⟨a, b, c, rfl, hd.symm⟩))
    | interface e => exact .inr (.inr (.inr ⟨e, rfl, hd.symm⟩))
    | _ => exact absurd hd.symm h0

theorem guard_run {P : Program} {b : BinOp} {t : TypeId} {u v : Value} (xo yo : Operand) (ha : ∀ l l', ¬ (u = .agg l ∧ v = .agg l')) (hni : ¬ (u = .nilIface ∧ v = .nilIface)) (w : World) : (eqGuard b t xo yo u v).run P w = .ok () w := by
  have key : ∀ c : Bool, ((do
      if !c then return
      match u, v with
      | .nilIface, .nilIface =>
        if (xo matches .const _) || (yo matches .const _) then return
        if ← Op.eqGuardIn Op.maxDepth t u v then unsupported (.noEntry "binop/eql: two nil values of an interface type with methods, neither of them the literal nil")
      | .agg _, .agg _ =>
        if !(← program).eqGuardType (← program).depth t then return
        if ← Op.eqGuardIn Op.maxDepth t u v then unsupported (.noEntry "binop/eql: two nil values of an interface type with methods, in a part of a struct or an array")
      | _, _ => pure ()) : Sem Unit).run P w = .ok () w := by
    intro c
    cases c with
    | false => rfl
    | true =>
      simp only [Bool.not_true, Bool.false_eq_true, if_false]
      split
      · exact absurd ⟨rfl, rfl⟩ hni
      · rename_i l l'; exact absurd ⟨rfl, rfl⟩ (ha l l')
      · rfl
  exact key _

set_option maxHeartbeats 1000000 in
theorem nil_ok {P : Program} {m : Mp} {t d : Nat} {b : BinOp} {x y u v r : Value} (hd : nilKind P t = d) (hx : VR m x u) (hy : VR m y v) (hn : nilCmp d x y = true) (hr : evNil b = some r) (xo yo : Operand) (w : World) :
    (do eqGuard b t xo yo u v; binOp b t u v : Sem Value).run P w = .ok r w ∧ flat r = true := by
  have h0 : d ≠ 0 := by rintro rfl; simp [nilCmp] at hn
  obtain ⟨D, hu, hD⟩ := nilKind_inv hd h0
  have h1 : ∀ u v, (Op.equal t u v).run P w = .ok false w → (∀ xo yo, (eqGuard b t xo yo u v).run P w = .ok () w) → (∀ b', (b' = .eql ∨ b' = .neq) → binOp b' t u v = (match b' with | .eql => do pure (.bool (← Op.equal t u v)) | _ => do pure (.bool (!(← Op.equal t u v))))) →
      (do eqGuard b t xo yo u v; binOp b t u v : Sem Value).run P w = .ok r w ∧ flat r = true := by
    intro u v he hg hb
    cases b <;> simp [evNil] at hr <;> subst hr
    · refine ⟨?_, rfl⟩
      rw [hb _ (.inl rfl)]; simp [hg, he]
    · refine ⟨?_, rfl⟩
      rw [hb _ (.inr rfl)]; simp [hg, he]
  have step : ∀ u v, (∀ n, (Op.equalIn (n + 1) t u v).run P w = .ok false w) → (Op.equal t u v).run P w = .ok false w := fun u v h => h 9999
  have guard : ∀ (u v : Value) xo yo, (∀ l l', ¬ (u = .agg l ∧ v = .agg l')) → ¬ (u = .nilIface ∧ v = .nilIface) → (eqGuard b t xo yo u v).run P w = .ok () w := fun u v xo yo ha hni => guard_run xo yo ha hni w
  unfold nilCmp at hn
  split at hn
  · obtain ⟨a', n', c', rfl⟩ := hy.slice_some
    have := hx.slice_none; subst this
    rcases hD with ⟨e, rfl, _⟩ | ⟨e, _, h⟩ | ⟨_, _, _, _, h⟩ | ⟨e, _, h⟩ <;> try (simp at h; done)
    refine h1 _ _ ?_ (fun xo yo => guard _ _ xo yo (by simp) (by simp)) (by rintro b' (rfl | rfl) <;> rfl)
    exact step _ _ (fun n => by unfold Op.equalIn; simp [run_und hu])
  · obtain ⟨a', n', c', rfl⟩ := hx.slice_some
    have := hy.slice_none; subst this
    rcases hD with ⟨e, rfl, _⟩ | ⟨e, _, h⟩ | ⟨_, _, _, _, h⟩ | ⟨e, _, h⟩ <;> try (simp at h; done)
    refine h1 _ _ ?_ (fun xo yo => guard _ _ xo yo (by simp) (by simp)) (by rintro b' (rfl | rfl) <;> rfl)
    exact step _ _ (fun n => by unfold Op.equalIn; simp [run_und hu])
  · obtain ⟨a', rfl⟩ := hy.ptr_some
    have : u = .pointer none := by simpa only [VR] using hx
    subst this
    rcases hD with ⟨e, _, h⟩ | ⟨e, rfl, _⟩ | ⟨_, _, _, _, h⟩ | ⟨e, _, h⟩ <;> try (simp at h; done)
    refine h1 _ _ ?_ (fun xo yo => guard _ _ xo yo (by simp) (by simp)) (by rintro b' (rfl | rfl) <;> rfl)
    exact step _ _ (fun n => by unfold Op.equalIn; simp [run_und hu])
  · obtain ⟨a', rfl⟩ := hx.ptr_some
    have : v = .pointer none := by simpa only [VR] using hy
    subst this
    rcases hD with ⟨e, _, h⟩ | ⟨e, rfl, _⟩ | ⟨_, _, _, _, h⟩ | ⟨e, _, h⟩ <;> try (simp at h; done)
    refine h1 _ _ ?_ (fun xo yo => guard _ _ xo yo (by simp) (by simp)) (by rintro b' (rfl | rfl) <;> rfl)
    exact step _ _ (fun n => by unfold Op.equalIn; simp [run_und hu])
  · obtain ⟨f', p', c', rfl⟩ := hy.func_inv
    have : u = .nilFunc := by simpa only [VR] using hx
    subst this
    rcases hD with ⟨e, _, h⟩ | ⟨e, _, h⟩ | ⟨_, _, _, rfl, _⟩ | ⟨e, _, h⟩ <;> try (simp at h; done)
    refine h1 _ _ ?_ (fun xo yo => guard _ _ xo yo (by simp) (by simp)) (by rintro b' (rfl | rfl) <;> rfl)
    exact step _ _ (fun n => by unfold Op.equalIn; simp [run_und hu])
  · obtain ⟨f', p', c', rfl⟩ := hx.func_inv
    have : v = .nilFunc := by simpa only [VR] using hy
    subst this
    rcases hD with ⟨e, _, h⟩ | ⟨e, _, h⟩ | ⟨_, _, _, rfl, _⟩ | ⟨e, _, h⟩ <;> try (simp at h; done)
    refine h1 _ _ ?_ (fun xo yo => guard _ _ xo yo (by simp) (by simp)) (by rintro b' (rfl | rfl) <;> rfl)
    exact step _ _ (fun n => by unfold Op.equalIn; simp [run_und hu])
  · have : u = .nilIface := by simpa only [VR] using hx
    subst this
    simp only [VR] at hy
    obtain ⟨v', rfl, _⟩ := hy
    rcases hD with ⟨e, _, h⟩ | ⟨e, _, h⟩ | ⟨_, _, _, _, h⟩ | ⟨e, rfl, _⟩ <;> try (simp at h; done)
    refine h1 _ _ ?_ (fun xo yo => guard _ _ xo yo (by simp) (by simp)) (by rintro b' (rfl | rfl) <;> rfl)
    exact step _ _ (fun n => by unfold Op.equalIn; simp [run_und hu])
  · have : v = .nilIface := by simpa only [VR] using hy
    subst this
    simp only [VR] at hx
    obtain ⟨v', rfl, _⟩ := hx
    rcases hD with ⟨e, _, h⟩ | ⟨e, _, h⟩ | ⟨_, _, _, _, h⟩ | ⟨e, rfl, _⟩ <;> try (simp at h; done)
    refine h1 _ _ ?_ (fun xo yo => guard _ _ xo yo (by simp) (by simp)) (by rintro b' (rfl | rfl) <;> rfl)
    exact step _ _ (fun n => by unfold Op.equalIn; simp [run_und hu])
  · cases hn

theorem bin_ok {P : Program} {m : Mp} {t : Nat} {b : BinOp} {x y u v r : Value} (hx : VR m x u) (hy : VR m y v) (h : evBin P b t (nilKind P t) x y = some r) (xo yo : Operand) (w : World) :
    (do eqGuard b t xo yo u v; binOp b t u v : Sem Value).run P w = .ok r w ∧ VR m r r := by
  have two : ∀ {x y u v r : Value}, VR m x u → VR m y v → evBin2 P b t x y = some r → (do eqGuard b t xo yo u v; binOp b t u v : Sem Value).run P w = .ok r w ∧ VR m r r := by
    intro x y u v r hx hy h
    unfold evBin2 at h
    cases hf : flat x && flat y && noGuard x with
    | false => rw [hf] at h; cases h
    | true =>
      rw [hf] at h
      simp only [Bool.and_eq_true] at hf
      obtain ⟨h1, h2⟩ := flatR_inv (show flatR (pureVal P (binOp b t x y)) = some r from h)
      rw [VR.same x hf.1.1 hx, VR.same y hf.1.2 hy]
      refine ⟨?_, VR.flat r h2⟩
      rw [Sem.run_bind, run_eqGuard hf.2]
      exact pureVal_run h1 w
  unfold evBin at h
  split at h
  · rename_i k mm k' nn
    have e1 := hx.int_inv; subst e1
    have e2 := hy.int_inv; subst e2
    cases hk : kindEq k k' with
    | false => rw [hk] at h; cases h
    | true =>
      rw [hk] at h
      have := kindEq_eq hk; subst this
      have h' : orElse (intBin b k mm nn) (evBin2 P b t (.int k mm) (.int k nn)) = some r := h
      cases hi : intBin b k mm nn with
      | none => rw [hi] at h'; exact two hx hy h'
      | some q =>
        rw [hi] at h'
        have hq : q = r := Option.some.inj h'
        subst hq
        obtain ⟨h1, h2⟩ := intBin_ok (P := P) hi t w
        refine ⟨?_, VR.flat _ h2⟩
        rw [Sem.run_bind, run_eqGuard (by rfl)]
        exact h1
  · cases hc : nilCmp (nilKind P t) x y with
    | true =>
      rw [hc] at h
      obtain ⟨h1, h2⟩ := nil_ok (P := P) (t := t) rfl hx hy hc (show evNil b = some r from h) xo yo w
      exact ⟨h1, VR.flat _ h2⟩
    | false => rw [hc] at h; exact two hx hy h
end Go.Proofs.YtpedbdicjgdgkaaGreat.Ev

/- What each operation does: slices. No program here. -/
namespace Go.Proofs.YtpedbdicjgdgkaaGreat.Ev
open Go Go.RowKit

/-- A number that may be there. -/
def VO (m : Mp) : Option Value → Option Value → Prop
  | none, v => v = none
  | some u, v => ∃ u', v = some u' ∧ VR m u u'
theorem natOf_inv {v : Value} {n : Nat} (h : natOf v = some n) : ∃ k, v = .int k (.ofNat n) := by
  unfold natOf at h
  split at h
  · rename_i k j; cases h; exact ⟨k, rfl⟩
  · cases h
theorem run_bound {P : Program} {m : Mp} {v u : Value} {n y : Nat} (hv : VR m v u) (h : natOf v = some n) (hle : n ≤ y) (code : BoundsCode) (w : World) : (Instr.sliceBound u y code).run P w = .ok n w := by
  obtain ⟨k, rfl⟩ := natOf_inv h
  have := hv.int_inv; subst this
  simp [Instr.sliceBound, asIntOf, hle]
/-- The bounds of a slicing. -/
theorem run_bounds {P : Program} {m : Mp} {lo hi mx lo' hi' mx' : Option Value} {len cap l h : Nat} {M : Option Nat} (h1 : VO m lo lo') (h2 : VO m hi hi') (h3 : VO m mx mx') (b1 : bnd 0 lo = some l) (b2 : bnd len hi = some h) (b3 : evMx mx = some M)
    (hx : mx.isNone = true ∨ hi.isSome = true) (hl : l ≤ h) (hh : hi.isSome = true → h ≤ M.getD cap) (hM : ∀ n, M = some n → n ≤ cap) (w : World) :
    (Instr.sliceBounds true len cap lo' hi' mx').run P w = .ok (l, h, M.getD cap) w := by
  cases mx with
  | none =>
    simp only [VO] at h3; subst h3
    simp only [evMx, Option.some.injEq] at b3
    subst b3
    cases hi with
    | none =>
      simp only [VO] at h2; subst h2
      simp only [bnd, Option.some.injEq] at b2
      subst b2
      cases lo with
      | none => simp only [VO] at h1; subst h1; simp only [bnd, Option.some.injEq] at b1; subst b1; simp [Instr.sliceBounds]
      | some v => obtain ⟨u, rfl, hv⟩ := h1; simp [Instr.sliceBounds, run_bound hv (show natOf v = some l from b1) hl]
    | some a =>
      obtain ⟨a', rfl, ha⟩ := h2
      have e2 := fun c => run_bound (P := P) ha (show natOf a = some h from b2) (show h ≤ cap from hh rfl) c w
      cases lo with
      | none => simp only [VO] at h1; subst h1; simp only [bnd, Option.some.injEq] at b1; subst b1; simp [Instr.sliceBounds, e2]
      | some v => obtain ⟨u, rfl, hv⟩ := h1; simp [Instr.sliceBounds, e2, run_bound hv (show natOf v = some l from b1) hl]
  | some q =>
    obtain ⟨q', rfl, hq⟩ := h3
    cases hn : natOf q with
    | none => simp [evMx, hn] at b3
    | some n =>
      simp only [evMx, hn, Option.map_some, Option.some.injEq] at b3
      subst b3
      have e3 := fun c => run_bound (P := P) hq hn (hM n rfl) c w
      rcases hx with hx | hx
      · cases hx
      cases hi with
      | none => cases hx
      | some a =>
        obtain ⟨a', rfl, ha⟩ := h2
        have e2 := fun c => run_bound (P := P) ha (show natOf a = some h from b2) (show h ≤ n from hh rfl) c w
        cases lo with
        | none => simp only [VO] at h1; subst h1; simp only [bnd, Option.some.injEq] at b1; subst b1; simp [Instr.sliceBounds, e2, e3]
        | some v => obtain ⟨u, rfl, hv⟩ := h1; simp [Instr.sliceBounds, e2, e3, run_bound hv (show natOf v = some l from b1) hl]

theorem sel_inv {α : Type} {b : Bool} {x : Option α} {v : α} (h : sel b x none = some v) : b = true ∧ x = some v := by cases b <;> simp_all [sel]
theorem sel_eq {α : Type} (b : Bool) (x y : α) : sel b x y = if b = true then x else y := by cases b <;> rfl

theorem bnd_some {d n : Nat} {v : Option Value} (h : bnd d v = some n) : (v = none ∧ n = d) ∨ v.isSome = true := by
  cases v with
  | none => exact .inl ⟨rfl, (Option.some.inj h).symm⟩
  | some v => exact .inr rfl

theorem slc_ok {P : Program} {K : Kp} {B : Nat} {m : Mp} {s : St} {w : World} {t e : Nat} {i : TypeInfo} {x u r : Value} {lo hi mx lo' hi' mx' : Option Value} (ht : P.underlying t = some (.slice e)) (hin : P.info? e = some i) (hx : mx.isNone = true ∨ hi.isSome = true)
    (E : Emb P K B m s w) (hv : VR m x u) (h1 : VO m lo lo') (h2 : VO m hi hi') (h3 : VO m mx mx') (h : evSlc (rowOf s) e i.size x lo hi mx = some r) :
    ∃ r', (Instr.slice t u lo' hi' mx').run P w = .ok r' w ∧ VR m r r' := by
  unfold evSlc at h
  split at h
  · rename_i b off len cap
    split at h
    · rename_i l hh M b1 b2 b3
      rw [sel_eq] at h
      split at h
      · -- an open row
        rename_i hop
        have hop' : OPEN ≤ cap := by simpa using hop
        split at h
        · rename_i k e' op hrow
          obtain ⟨hc, hS⟩ := sel_inv h
          clear h
          simp only [Bool.and_eq_true, Bool.or_eq_true, Bool.not_eq_true', Nat.beq_eq] at hc
          obtain ⟨⟨⟨⟨hop1, hee⟩, hoff⟩, hsz⟩, hj⟩ := hc
          have hee' : e = e' := by simpa using hee
          subst hee'
          have hsz' : i.size ≠ 0 := by intro h0; rw [h0] at hsz; simp at hsz
          have hoff' : off = (cap - OPEN) * i.size := by simpa using hoff
          obtain ⟨N, c, hg, hN⟩ : ∃ N c, s.h.get b = some (.cells N c e true) ∧ N = k := by
            unfold rowOf at hrow
            split at hrow
            · rename_i n c e2 op2 hg
              simp only [Option.some.injEq, Prod.mk.injEq] at hrow
              obtain ⟨rfl, rfl, rfl⟩ := hrow
              subst hop1
              exact ⟨_, _, hg, rfl⟩
            · cases hrow
          subst hN
          have hcell : P.cellsOf e = i.size := by simp [Program.cellsOf, hin]
          have hj' : cap = OPEN ∨ len ≠ 0 := by
            rcases hj with h0 | h0
            · exact .inl (by simpa using h0)
            · exact .inr (by intro h5; rw [h5] at h0; simp at h0)
          obtain ⟨X, y, hm, hu⟩ : ∃ X y, m b = some (X, y) ∧ u = .slice (some ⟨X, off, none⟩) len (y - (cap - OPEN)) := by
            rcases hv.slice_inv with ⟨h5, _⟩ | ⟨_, _, X, y, h5, h6⟩ | ⟨h5, h6, _⟩
            · omega
            · exact ⟨X, y, h5, h6⟩
            · rcases hj' with h7 | h7 <;> omega
          subst hu
          obtain ⟨o', _, cs, rfl, hNs, _, hopn, _⟩ := E.obj b X y _ hm hg
          obtain ⟨X2, y2, hm2, hy⟩ := hopn rfl
          rw [hm] at hm2; cases hm2
          rw [hcell] at hy
          obtain ⟨j, hjd⟩ : ∃ j, cap - OPEN = j := ⟨_, rfl⟩
          rw [hjd] at hS hoff' ⊢
          have fit : ∀ n, n * i.size ≤ N → n ≤ y := fun n hn => Nat.le_of_mul_le_mul_right (by omega : n * i.size ≤ y * i.size) (by omega)
          unfold evSlcOpen at hS
          cases M with
          | none =>
            obtain ⟨hd, hq⟩ := sel_inv hS
            simp only [Bool.and_eq_true, Nat.ble_eq] at hd
            have hfit := fit (j + hh) hd.2
            have hq := Option.some.inj hq
            subst hq
            have hr := run_bounds (P := P) (cap := y - j) h1 h2 h3 b1 b2 b3 hx hd.1 (fun _ => by show hh ≤ y - j; omega) (fun n hn => by cases hn) w
            refine ⟨.slice (some (if y - j = l then ⟨X, off, none⟩ else (⟨X, off, none⟩ : Addr).add (l * i.size))) (hh - l) (y - j - l), ?_, ?_⟩
            · simp only [Instr.slice, Sem.run_bind, run_und ht, Result.andThen_ok, hr, run_sizeOf hin, Option.getD_none]
              split <;> simp_all
            · simp only [VR]
              refine ⟨trivial, ?_⟩
              rw [if_neg (by omega)]
              by_cases h0 : j + l = 0 ∨ hh - l ≠ 0
              · rw [if_pos (by rcases h0 with h0 | h0; · left; omega
                               · right; exact h0)]
                refine ⟨X, y, hm, ?_⟩
                have e1 : OPEN + (j + l) - OPEN = j + l := by omega
                rw [e1]
                by_cases hml : y - j = l
                · have : l = 0 ∧ j = 0 := by omega
                  obtain ⟨rfl, rfl⟩ := this
                  rw [if_pos hml, hoff']
                  simp
                · rw [if_neg hml, add_none, hoff', Nat.add_mul, show y - j - l = y - (j + l) by omega]
              · rw [if_neg (by omega)]
                have : hh - l = 0 := by omega
                exact ⟨_, _, by rw [this]⟩
          | some M =>
            obtain ⟨hd, hq⟩ := sel_inv hS
            simp only [Bool.and_eq_true, Nat.ble_eq, Nat.blt_eq] at hd
            have hfit := fit (j + M) hd.2
            have hq := Option.some.inj hq
            subst hq
            have hr := run_bounds (P := P) (cap := y - j) h1 h2 h3 b1 b2 b3 hx hd.1.1.1 (fun _ => hd.1.1.2) (fun n hn => by cases hn; omega) w
            refine ⟨.slice (some (if M = l then ⟨X, off, none⟩ else (⟨X, off, none⟩ : Addr).add (l * i.size))) (hh - l) (M - l), ?_, ?_⟩
            · simp only [Instr.slice, Sem.run_bind, run_und ht, Result.andThen_ok, hr, run_sizeOf hin, Option.getD_some]
              split <;> simp_all
            · simp only [VR]
              refine ⟨trivial, ?_⟩
              rw [if_pos (by omega)]
              refine ⟨X, y, hm, ?_⟩
              rw [sel_eq]
              by_cases hml : M = l
              · rw [if_pos hml, if_pos (by simpa using hml), hoff']
              · rw [if_neg hml, if_neg (by simpa using hml), add_none, hoff', Nat.add_mul]
        · cases h
      · -- a row whose cap is known
        rename_i hop
        have hop' : cap < OPEN := by
          have : ¬ OPEN ≤ cap := by simpa using hop
          omega
        obtain ⟨hhc, h⟩ := sel_inv h
        have hhc' : hh ≤ cap := by simpa using hhc
        obtain ⟨X, y, hm, hu⟩ : ∃ X y, m b = some (X, y) ∧ u = .slice (some ⟨X, off, none⟩) len cap := by
          rcases hv.slice_inv with ⟨_, X, y, h5, h6⟩ | ⟨h5, _⟩ | ⟨h5, _⟩
          · exact ⟨X, y, h5, h6⟩
          · omega
          · omega
        subst hu
        unfold evSlcAt at h
        cases M with
        | none =>
          obtain ⟨hc, h⟩ := sel_inv h
          have hc' : l ≤ hh := by simpa using hc
          cases h
          have hr := run_bounds (P := P) (cap := cap) h1 h2 h3 b1 b2 b3 hx hc' (fun _ => hhc') (fun n hn => by cases hn) w
          refine ⟨.slice (some (if cap = l then ⟨X, off, none⟩ else (⟨X, off, none⟩ : Addr).add (l * i.size))) (hh - l) (cap - l), ?_, ?_⟩
          · simp only [Instr.slice, Sem.run_bind, run_und ht, Result.andThen_ok, hr, run_sizeOf hin, Option.getD_none]
            split <;> simp_all
          · simp only [VR]
            refine ⟨trivial, ?_⟩
            rw [if_pos (by omega)]
            refine ⟨X, y, hm, ?_⟩
            rw [sel_eq]
            by_cases hml : cap = l
            · rw [if_pos hml, if_pos (by simpa using hml)]
            · rw [if_neg hml, if_neg (by simpa using hml), add_none]
        | some M =>
          obtain ⟨hc, h⟩ := sel_inv h
          simp only [Bool.and_eq_true, Nat.ble_eq] at hc
          cases h
          have hr := run_bounds (P := P) (cap := cap) h1 h2 h3 b1 b2 b3 hx hc.1.1 (fun _ => hc.1.2) (fun n hn => by cases hn; exact hc.2) w
          refine ⟨.slice (some (if M = l then ⟨X, off, none⟩ else (⟨X, off, none⟩ : Addr).add (l * i.size))) (hh - l) (M - l), ?_, ?_⟩
          · simp only [Instr.slice, Sem.run_bind, run_und ht, Result.andThen_ok, hr, run_sizeOf hin, Option.getD_some]
            split <;> simp_all
          · simp only [VR]
            refine ⟨trivial, ?_⟩
            rw [if_pos (by omega)]
            refine ⟨X, y, hm, ?_⟩
            rw [sel_eq]
            by_cases hml : M = l
            · rw [if_pos hml, if_pos (by simpa using hml)]
            · rw [if_neg hml, if_neg (by simpa using hml), add_none]
    · cases h
  · -- nil
    have hu := hv.slice_none
    subst hu
    split at h
    · rename_i b1 b2 b3
      cases h
      have hr := run_bounds (P := P) (len := 0) (cap := 0) h1 h2 h3 b1 b2 b3 hx (Nat.le_refl 0) (fun _ => Nat.le_refl _) (fun n hn => by cases hn) w
      refine ⟨.slice none 0 0, ?_, by simp only [VR]; exact ⟨by decide, trivial⟩⟩
      simp only [Instr.slice, Sem.run_bind, run_und ht, Result.andThen_ok, hr, run_sizeOf hin, Option.getD_none]
      rfl
    · rename_i b1 b2 b3
      cases h
      have hr := run_bounds (P := P) (len := 0) (cap := 0) h1 h2 h3 b1 b2 b3 hx (Nat.le_refl 0) (fun _ => Nat.le_refl _) (fun n hn => by cases hn; exact Nat.le_refl _) w
      refine ⟨.slice none 0 0, ?_, by simp only [VR]; exact ⟨by decide, trivial⟩⟩
      simp only [Instr.slice, Sem.run_bind, run_und ht, Result.andThen_ok, hr, run_sizeOf hin, Option.getD_some]
      rfl
    · cases h
  · cases h

theorem len_ok {P : Program} {m : Mp} {s : St} {w : World} {ts : Array Nat} {t0 e : Nat} {v u : Value} {k : Value → St → Bool} {ty : Nat} (h0 : ts[0]? = some t0) (ht : P.underlying t0 = some (.slice e)) (hv : VR m v u)
    (hk : onSlice v (fun n _ => k (.int .i64 (.ofNat n)) s) (fun _ _ n _ => k (.int .i64 (.ofNat n)) s) = true) :
    ∃ r, k r s = true ∧ (Builtin.len_ ts ty #[u]).run P w = .ok r w ∧ VR m r r := by
  have run : ∀ a n c, (Builtin.len_ ts ty #[.slice a n c]).run P w = .ok (.int .i64 n) w := by
    intro a n c
    simp [Builtin.len_, h0, run_und ht, goInt]
  rcases onSlice_inv hk with ⟨n, c, rfl, hk⟩ | ⟨b, o, n, c, rfl, hk⟩
  · have := hv.slice_none; subst this
    exact ⟨_, hk, run _ _ _, by simp only [VR]⟩
  · refine ⟨_, hk, ?_, by simp only [VR]⟩
    rcases hv.slice_inv with ⟨_, X, y, _, rfl⟩ | ⟨_, _, X, y, _, rfl⟩ | ⟨_, rfl, a, c', rfl⟩
    · exact run _ _ _
    · exact run _ _ _
    · exact run _ _ _
theorem cap_ok {P : Program} {m : Mp} {w : World} {ts : Array Nat} {t0 e : Nat} {v u r : Value} {ty : Nat} (h0 : ts[0]? = some t0) (ht : P.underlying t0 = some (.slice e)) (hv : VR m v u) (h : evCap v = some r) :
    (Builtin.cap_ ts ty #[u]).run P w = .ok r w ∧ VR m r r := by
  have run : ∀ a n c, (Builtin.cap_ ts ty #[.slice a n c]).run P w = .ok (.int .i64 c) w := by
    intro a n c
    simp [Builtin.cap_, h0, run_und ht, goInt]
  unfold evCap at h
  split at h
  · rename_i a n c
    rw [sel_eq] at h
    split at h
    · cases h
    · rename_i hc
      have hc' : c < OPEN := by
        have : ¬ OPEN ≤ c := by simpa using hc
        omega
      cases h
      refine ⟨?_, by simp only [VR]⟩
      cases a with
      | none => have := hv.slice_none; subst this; exact run _ _ _
      | some a =>
        simp only [VR] at hv
        have hv := hv.2
        rw [if_pos hc'] at hv
        obtain ⟨X, y, _, rfl⟩ := hv
        exact run _ _ _
  · cases h
theorem nilc_ok {m : Mp} {v u r : Value} (hv : VR m v u) (h : evNilc v = some r) : (∃ a, u = .pointer (some a)) ∨ ∃ f p c, u = .func (.func f) p c := by
  unfold evNilc at h
  split at h
  · obtain ⟨a, rfl⟩ := hv.ptr_some; exact .inl ⟨a, rfl⟩
  · simp only [VR] at hv
    obtain ⟨p', c', rfl, _⟩ := hv
    exact .inr ⟨_, _, _, rfl⟩
  · cases h
end Go.Proofs.YtpedbdicjgdgkaaGreat.Ev
