import Derived.Test.YtfhfjcfhanmbiaaGreatZb04
import Derived.ProofKit
import Derived.OpenShut
import Derived.Lib.SmallJoins
import Derived.Deep.Slices
import Derived.Deep.Strs
import Derived.Test.YtfhfjcfhanmbiaaGreatZb06
set_option linter.unusedVariables false
set_option linter.unusedSimpArgs false
/- A world as memory that is only read: whatever came in. No program here. -/
namespace Go.Proofs.YtfhfjcfhanmbiaaGreat.Ev
open Go Go.RowKit
noncomputable section

def isCells : Go.Obj → Bool
  | .cells _ _ _ => true
  | _ => false
def wmp (W : World) : Mp := fun i => match W.heap[i]? with
  | some o => if isCells o then some (i, 0) else none
  | none => none
open Classical in
def romOf (W : World) : Go.Obj → CObj
  | .cells cs _ _ => .rom (fun j => match cs[j]? with | some v => if VR (wmp W) v v ∧ oneCell v = true then some v else none | none => none)
  | _ => .dead
def wst (W : World) : St := ⟨BT.ofList (W.heap.toList.map (romOf W)), W.heap.size⟩
theorem ofList_full {α : Type} (l : List α) : Full (BT.ofList l) l.length := by
  have := full_adds (l := l) (t := (.leaf : BT α)) (n := 0) (by simp [Full])
  rw [Nat.zero_add] at this
  exact this
theorem ofList_at {α : Type} {l : List α} {i : Nat} {v : α} (h : l[i]? = some v) : (BT.ofList l).get i = some v := by
  have hi : i < l.length := (List.getElem?_eq_some_iff.1 h).1
  obtain ⟨u, hu⟩ := Option.isSome_iff_exists.1 ((ofList_full l).some i hi)
  have := ofList_get hu
  rw [h] at this; cases this; exact hu
theorem wst_wf (W : World) : Wf (wst W) := by
  have := ofList_full (W.heap.toList.map (romOf W))
  simpa [wst, Wf] using this
theorem wst_at {W : World} {b : Nat} {o : Go.Obj} (h : W.heap[b]? = some o) : (wst W).h.get b = some (romOf W o) := by
  refine ofList_at ?_
  rw [List.getElem?_map]
  have : W.heap.toList[b]? = some o := by simpa using h
  rw [this]; rfl
theorem wmp_inv {W : World} {i x y : Nat} (h : wmp W i = some (x, y)) : x = i ∧ ∃ cs e fr, W.heap[i]? = some (.cells cs e fr) := by
  unfold wmp at h
  split at h
  · rename_i o ho
    cases o with
    | cells cs e fr => simp [isCells] at h; exact ⟨h.1.symm, cs, e, fr, ho⟩
    | _ => simp [isCells] at h
  · cases h
theorem wmp_of {W : World} {i : Nat} {cs : Array Value} {e : Nat} {fr : Nat × Nat} (h : W.heap[i]? = some (.cells cs e fr)) : wmp W i = some (i, 0) := by
  unfold wmp; rw [h]; rfl
theorem emb_world (P : Program) (W : World) : Emb P (fun _ => none) W.heap.size (wmp W) (wst W) W := by
  refine ⟨fun i x y hi => ?_, fun i p hi => ?_, fun i x y o hi ho => ?_, fun i j x y y' hi hj hij hB => ?_, Nat.le_refl _, fun i o h => by cases h⟩
  · obtain ⟨rfl, cs, e, fr, h⟩ := wmp_inv hi
    exact ⟨.inr ⟨_, wst_at h⟩, (Array.getElem?_eq_some_iff.1 h).1⟩
  · obtain ⟨x, y⟩ := p
    obtain ⟨_, cs, e, fr, h⟩ := wmp_inv hi
    exact (Array.getElem?_eq_some_iff.1 h).1
  · obtain ⟨rfl, cs, e, fr, h⟩ := wmp_inv hi
    have h1 := wst_at h
    rw [ho] at h1
    have h2 : o = romOf W (.cells cs e fr) := Option.some.inj h1
    subst h2
    refine ⟨_, h, cs, e, fr, rfl, fun j v hj => ?_⟩
    dsimp only at hj
    split at hj
    · rename_i u hu
      split at hj
      · rename_i hc
        cases hj
        exact ⟨hc.2, _, hu, hc.1⟩
      · cases hj
    · cases hj
  · obtain ⟨rfl, cs, e, fr, h⟩ := wmp_inv hi
    have := (Array.getElem?_eq_some_iff.1 h).1
    omega
theorem at_world {W : World} {b o : Nat} {v : Value} (h : W.cell? ⟨b, o, none⟩ = some v) (hv : VR (wmp W) v v) (h1 : oneCell v = true) : At (wst W) b o v := by
  have hb : ∃ cs e fr, W.heap[b]? = some (.cells cs e fr) ∧ cs[o]? = some v := by
    unfold World.cell? at h
    dsimp only at h
    split at h
    · rename_i cs e fr hh; exact ⟨cs, e, fr, by first | exact hh | exact hh.1, h⟩
    · cases h
  obtain ⟨cs, e, fr, h2, h3⟩ := hb
  refine ⟨_, .inr (wst_at h2), ?_⟩
  simp [h3, hv, h1]
theorem Emb.below {P : Program} {K : Kp} {B : Nat} {m : Mp} {s : St} {w w' : World} (E : Emb P K B m s w) (h : Below w.heap.size w w') : Emb P K B m s w' := by
  have hs : w.heap.size ≤ w'.heap.size := h.size
  refine ⟨fun i x y hi => ⟨(E.low i x y hi).1, Nat.lt_of_lt_of_le (E.low i x y hi).2 hs⟩, E.old, fun i x y o hi ho => ?_, E.inj, Nat.le_trans E.base hs, E.kept⟩
  obtain ⟨o', h1, h2⟩ := E.obj i x y o hi ho
  exact ⟨o', (h.block x (E.low i x y hi).2).trans h1, h2⟩

/-- One call that is known: it needs nothing, leaves all as it was, and hands back true. -/
def knownX (g : Nat) : FuncId → List Value → St → (Value → St → Bool) → Bool := fun f vs s k => Nat.beq f g && (match vs with | [] => true | _ => false) && k (.bool true) s
theorem known_ok {P : Program} {g : Nat} {c : CF} (hc : compF P g = some c) (h : ∀ w, Calls P g #[] w fun e w' => e = .returned (.bool true) ∧ Below w.heap.size w w') : KnownOk P (knownX g) := by
  intro K B f vs s k hk m w us E hv
  unfold knownX at hk
  simp only [Bool.and_eq_true] at hk
  obtain ⟨⟨h1, h2⟩, h3⟩ := hk
  have hf : f = g := by simpa using h1
  subst hf
  cases vs with
  | cons v l => cases h2
  | nil =>
    have : us = [] := by simpa only [LR] using hv
    subst this
    obtain ⟨fn, cd, r, e1, e2, e3, e4, _⟩ := compF_inv hc
    refine ⟨fun w => ?_, CallsIn.mono ((callsIn_wide (n := 0)).2 (h w)) (fun e w' he => ?_)⟩
    · have h4' : ¬ fn.name = "runtime.NumGoroutine" := by simpa using e4
      simp [callFunc, e1, e2, h4']
    · obtain ⟨rfl, hb⟩ := he
      exact ⟨.bool true, s, m, h3, Mp.le_refl m, E.below hb, hb.mono E.base, by simp only [VR]⟩
theorem known_s {P : Program} {C : Nat → (CF → Bool) → Bool} {g : Nat} (n : Nat) (s : St) (hs : Wf s) : Spec P C (knownX g) n g [] s (fun v A => v = .bool true ∧ A = []) := by
  intro k hk
  have h1 : knownX g g [] s k = true := by
    unfold knownX
    rw [hk _ s ⟨[], Hld.start hs, rfl, rfl⟩, show Nat.beq g g = true from by rw [Nat.beq_eq]]; rfl
  cases n with
  | zero => exact h1
  | succ n =>
    show (knownX g g [] s k || _) = true
    rw [h1]; rfl
/-- What the evaluator says of a call whose memory is the world itself, the program does. -/
theorem law_open {P : Program} {t : BT (Option CF)} (h : Holds P t 0 1) {X : FuncId → List Value → St → (Value → St → Bool) → Bool} (hX : KnownOk P X) {n : Nat} {f : FuncId} {vs us : List Value} {W : World} (hs : Spec P (tabK t) X n f vs (wst W) (fun v A => v = .bool true ∧ A = [])) (hv : LR (wmp W) vs us) :
    Calls P f ⟨us⟩ W (fun e w' => e = .returned (.bool true) ∧ Below W.heap.size W w') := by
  refine Calls.mono (open_ok h hX (k := fun v _ => trueK v) (hs _ (fun v s' hq => by obtain ⟨A, _, rfl, _⟩ := hq; rfl)) (emb_world P W) hv) (fun e w' he => ?_)
  obtain ⟨u, rfl, h1, v, s', m', h2, _, _, h3⟩ := he
  obtain ⟨b, rfl, h4⟩ := onBool_inv (k := fun b => b) h2
  have hb : b = true := h4
  subst hb
  have : u = .bool true := by simpa only [VR] using h3
  exact ⟨by rw [this], h1⟩

/-! What the row lets in stands for itself. -/
theorem VR.int {m : Mp} (k : IntKind) (n : Int) : VR m (.int k n) (.int k n) := by simp only [VR]
theorem VR.slice0 {m : Mp} : VR m (.slice none 0 0) (.slice none 0 0) := by simp only [VR]; exact ⟨by decide, trivial⟩
theorem VR.slice1 {W : World} {b o n c : Nat} {cs : Array Value} {e : Nat} {fr : Nat × Nat} (h : W.heap[b]? = some (.cells cs e fr)) (hc : c < OPEN) : VR (wmp W) (.slice (some ⟨b, o, none⟩) n c) (.slice (some ⟨b, o, none⟩) n c) := by
  simp only [VR]
  refine ⟨trivial, ?_⟩
  rw [if_pos hc]
  exact ⟨b, 0, wmp_of h, rfl⟩
theorem VR.agg {m : Mp} {l l' : List Value} (h : LR m l l') : VR m (.agg ⟨l⟩) (.agg ⟨l'⟩) := by
  simp only [VR, AR]
  exact ⟨_, rfl, l', rfl, h⟩
theorem LR.nil {m : Mp} : LR m [] [] := by simp only [LR]
theorem LR.cons {m : Mp} {v v' : Value} {l l' : List Value} (h : VR m v v') (hl : LR m l l') : LR m (v :: l) (v' :: l') := by
  simp only [LR]
  exact ⟨v', l', rfl, h, hl⟩
/-- A slice that came in: nil, or in a row of cells, its cap an int. -/
def NiceS (W : World) (a : Option Addr) (n c : Nat) : Prop := (a = none ∧ n = 0 ∧ c = 0) ∨ ∃ b o cs e fr, a = some ⟨b, o, none⟩ ∧ W.heap[b]? = some (.cells cs e fr) ∧ c < OPEN
theorem NiceS.vr {W : World} {a : Option Addr} {n c : Nat} (h : NiceS W a n c) : VR (wmp W) (.slice a n c) (.slice a n c) := by
  rcases h with ⟨rfl, rfl, rfl⟩ | ⟨b, o, cs, e, fr, rfl, h, hc⟩
  · exact VR.slice0
  · exact VR.slice1 h hc
theorem NiceS.spot {W : World} {a : Option Addr} {n c : Nat} (h : NiceS W a n c) : ∀ b, a = some b → b.spot = none := by
  rcases h with ⟨rfl, rfl, rfl⟩ | ⟨b, o, cs, e, fr, rfl, h, hc⟩
  · intro b hb; cases hb
  · intro b hb; cases hb; rfl
theorem cell_niceS {P : Program} {W : World} {r : Reach} {b0 : Nat} {t e : TypeId} {v : Value} (ht : P.underlying t = some (.slice e)) (h : Cell.okWide P W r b0 t v) : ∃ a n c, v = .slice a n c ∧ NiceS W a n c := by
  simp only [Cell.okWide, ht] at h
  unfold Cell.ok at h
  rw [ht] at h
  split at h
  all_goals first
    | exact absurd h id
    | (rename_i h1; cases h1; done)
    | exact ⟨_, _, _, rfl, .inl ⟨rfl, rfl, rfl⟩⟩
    | skip
  all_goals first
    | (rename_i a len cap _; obtain ⟨h1, h2, _, hs, row, cells, h3, _⟩ := h
       refine ⟨_, _, _, rfl, .inr ?_⟩
       obtain ⟨b, o, spot⟩ := a
       have hs' : spot = none := hs
       subst hs'
       unfold World.shape? at h3
       split at h3
       · rename_i cs e' fr hh
         exact ⟨b, o, _, _, _, rfl, hh, by simp [IntKind.max, IntKind.signed, IntKind.bits] at h2; unfold OPEN; omega⟩
       · cases h3)
    | simp_all
end
end Go.Proofs.YtfhfjcfhanmbiaaGreat.Ev

/- What the row's arguments are, for the evaluator: rows of structs of numbers. No program here. -/
namespace Go.Proofs.YtfhfjcfhanmbiaaGreat.Ev
open Go Go.RowKit Go.ChangeShapes Go.WideShapes Go.ChangeAt Go.Joins
set_option linter.unusedVariables false
noncomputable section

def I64 (z : Int) : Prop := -9223372036854775808 ≤ z ∧ z < 9223372036854775808
theorem wf_I64 {n : Int} (h : (Lit.int .i64 n).wf = true) : I64 n := by
  simp [Lit.wf, IntKind.min, IntKind.max, IntKind.signed, IntKind.bits] at h
  unfold I64; omega
theorem lt_of_cell2 {w : World} {p : Addr} {v : Value} (h : w.cell? p = some v) : p.block < w.heap.size := by
  rcases Nat.lt_or_ge p.block w.heap.size with hlt | hge
  · exact hlt
  · unfold World.cell? at h; rw [Array.getElem?_eq_none hge] at h; simp at h
theorem weights_at2 {H : Type} {P : Program} : ∀ {ts : List TypeId} {ds : List (DataW H)} (_ : (DataW.weightsEach P ts ds).all (· ≤ reachBytes) = true) {j : Nat} {t : TypeId} {d : DataW H} (_ : ts[j]? = some t) (_ : ds[j]? = some d), ∀ x ∈ DataW.weights P t d, x ≤ reachBytes := by
  intro ts ds h j t d ht hd x hx
  have := List.all_eq_true.1 h x (DataW.weights_mem_each ht hd x hx)
  simpa using this
theorem add_flat2 (b o k : Nat) : (⟨b, o, none⟩ : Addr).add k = ⟨b, o + k, none⟩ := by
  unfold Addr.add
  by_cases h : k = 0
  · subst h; simp
  · simp [h]
/-- Cells of a type are w numbers. -/
def IntCells (H : Type) (P : Program) (enc : TypeId × Value → H) (W : World) (e w : Nat) : Prop :=
  ∀ {base fuel : Nat} {sp : Nat → Bool} {held : Bool} {cs : List Value} {x : DataW H × List MemPlace}, DataW.trod enc P W base sp held fuel e cs = some x → ∃ l : List Int, cs = l.map (.int .i64) ∧ l.length = w ∧ ∀ z ∈ l, I64 z
theorem intCells_int {H : Type} {P : Program} {enc : TypeId × Value → H} {W : World} {t : Nat} (ht : P.underlying t = some (.int .i64)) : IntCells H P enc W t 1 := by
  intro base fuel sp held cs x h
  obtain ⟨z, e, _, w⟩ := DataW.trod_int ht h
  exact ⟨[z], by simpa using e, rfl, by intro y hy; rw [List.mem_singleton.1 hy]; exact wf_I64 w⟩
/-- A struct whose fields are such, one behind the other. -/
theorem intCells_struct {H : Type} {P : Program} {enc : TypeId × Value → H} {W : World} {t : Nat} {fs : Array Field} {ws : List Nat} (ht : P.underlying t = some (.struct fs)) (hn : P.cellsOf t = ws.sum) (hf : ∀ i f, fs[i]? = some f → ∃ w, ws[i]? = some w ∧ P.cellsOf f.type = w ∧ f.offset = (ws.take i).sum ∧ IntCells H P enc W f.type w) (hl : fs.size = ws.length) : IntCells H P enc W t ws.sum := by
  intro base fuel sp held cs x h
  obtain ⟨xs, n, _, rfl, hcl, hlen, hfs⟩ := DataW.trod_struct ht h
  rw [hn] at hcl
  have key : ∀ (k : Nat), k ≤ ws.length → ∃ l : List Int, cs.take (ws.take k).sum = l.map (.int .i64) ∧ l.length = (ws.take k).sum ∧ ∀ z ∈ l, I64 z := by
    intro k
    induction k with
    | zero => intro _; exact ⟨[], by simp, rfl, by simp⟩
    | succ k ih =>
      intro hk
      obtain ⟨l, h1, h2, h3⟩ := ih (by omega)
      have hkf : k < fs.size := by omega
      obtain ⟨w, e1, e2, e3, e4⟩ := hf k fs[k] (Array.getElem?_eq_getElem hkf)
      have hx : ∃ y, xs[k]? = some y := ⟨xs[k]'(by rw [hlen]; simpa using hkf), List.getElem?_eq_getElem _⟩
      obtain ⟨y, hy⟩ := hx
      have h4 := hfs k fs[k] (by simp)
      have h4' : DataW.trod enc P W base sp held n fs[k].type ((cs.drop fs[k].offset).take (P.cellsOf fs[k].type)) = some y := by
        first
          | (obtain ⟨y', h5, h6⟩ := h4; rw [hy] at h5; cases h5; exact h6)
          | (rw [h4]; exact hy)
          | (rw [hy] at h4; exact h4)
      obtain ⟨l', g1, g2, g3⟩ := e4 h4'
      rw [e2, e3] at g1
      have hsum : (ws.take (k + 1)).sum = (ws.take k).sum + w := by
        rw [List.take_add_one, e1]; simp
      refine ⟨l ++ l', ?_, by rw [List.length_append, h2, g2, hsum], ?_⟩
      · rw [hsum, List.take_add, h1, g1, List.map_append]
      · intro z hz
        rcases List.mem_append.1 hz with hz | hz
        · exact h3 z hz
        · exact g3 z hz
  obtain ⟨l, h1, h2, h3⟩ := key ws.length (Nat.le_refl _)
  rw [List.take_length] at h1 h2
  rw [List.take_of_length_le (by omega)] at h1
  exact ⟨l, h1, h2, h3⟩
theorem ats_world {W : World} {b : Nat} : ∀ {r : List Int} {o : Nat}, (∀ j, j < r.length → W.cell? ⟨b, o + j, none⟩ = (r.map (Value.int .i64))[j]?) → Ats (wst W) b o (r.map (Value.int .i64))
  | [], _, _ => trivial
  | z :: r, o, h => ⟨at_world (by simpa using h 0 (by simp)) (VR.int _ _) rfl, ats_world (fun j hj => by have := h (j + 1) (by simp; omega); simpa [Nat.add_assoc, Nat.add_comm 1 j] using this)⟩
/-- A slice of structs of numbers that came in. -/
theorem rowsW {H : Type} {P : Program} {enc : TypeId × Value → H} {W : World} {t e w bytes : Nat} (ht : P.underlying t = some (.slice e)) (hc : P.cellsOf e = w) (hw : 0 < w) (hby : P.bytesOf e = bytes) (hb : 2 ≤ bytes) (hi : IntCells H P enc W e w) {a : Option Addr} {n cap fuel : Nat} (hv : NiceS W a n cap) {d : DataW H} {p : List MemPlace}
    (hf : DataW.trod enc P W 0 (fun _ => true) true fuel t [.slice a n cap] = some (d, p)) (hz : ∀ x ∈ DataW.weights P t d, x ≤ reachBytes) : ∃ rs : List (List Int), rs.length = n ∧ RowsE (wst W) w a rs ∧ rs.length * bytes ≤ 140737488355328 := by
  rcases Go.Deep.open_slice ht hf with ⟨hcs, _⟩ | ⟨a', l, c, m, fu, D, Pl, hcs, _, hl, hm, hmm, hd, hel⟩
  · simp at hcs
    obtain ⟨rfl, rfl, rfl⟩ := hcs
    exact ⟨[], rfl, ⟨hv.spot, fun h => absurd rfl h, fun _ _ h => (by cases h), by simp, by simp, by simp⟩, by simp⟩
  · simp at hcs
    obtain ⟨rfl, rfl, rfl⟩ := hcs
    have hml : n ≤ m := by rw [hmm]; split <;> omega
    have hch : ∀ i, ∃ y : List Int, i < n → (y.length = w ∧ ∀ z ∈ y, I64 z) ∧ ∀ r, r < w → W.cell? ((a'.add (i * w)).add r) = (y.map (Value.int .i64))[r]? := by
      intro i
      by_cases hin : i < n
      · obtain ⟨cs', h1, h2⟩ := hel i (by omega)
        obtain ⟨y, rfl, hy, hz⟩ := hi h2
        rw [hc] at h1
        obtain ⟨_, _, h3⟩ := World.cells?_some h1
        exact ⟨y, fun _ => ⟨⟨hy, hz⟩, h3⟩⟩
      · exact ⟨[], fun h => absurd h hin⟩
    obtain ⟨Y, hY⟩ : ∃ Y : Nat → List Int, ∀ i, i < n → ((Y i).length = w ∧ ∀ z ∈ Y i, I64 z) ∧ ∀ r, r < w → W.cell? ((a'.add (i * w)).add r) = ((Y i).map (Value.int .i64))[r]? := ⟨fun i => (hch i).choose, fun i => (hch i).choose_spec⟩
    have hsp := hv.spot a' rfl
    obtain ⟨b, off, spot⟩ := a'
    have hsp' : spot = none := hsp
    subst hsp'
    have hbytes : n * bytes ≤ 140737488355328 := by
      simp only [Prod.mk.injEq] at hd
      obtain ⟨rfl, _⟩ := hd
      have := hz _ (by simp only [DataW.weights, ht]; exact List.mem_cons_self)
      rw [hby] at this
      simp only [List.length_map, List.length_range, reachBytes] at this
      have e1 : n + (m - n) = m := by omega
      rw [e1] at this
      exact Nat.le_trans (Nat.mul_le_mul_right _ hml) (by omega)
    refine ⟨(List.range n).map Y, by simp, ⟨hv.spot, fun _ => ⟨b, off, rfl⟩, ?_, ?_, ?_, ?_⟩, by simpa using hbytes⟩
    · intro b' o' hbo i r hr
      cases hbo
      rw [List.getElem?_map] at hr
      obtain ⟨i', h1, rfl⟩ := Option.map_eq_some_iff.1 hr
      obtain ⟨h2, h3⟩ := List.getElem?_eq_some_iff.1 h1
      simp at h2 h3
      subst h3
      refine ats_world (fun j hj => ?_)
      have := (hY i h2).2 j (by rw [← (hY i h2).1.1]; exact hj)
      rw [add_flat2, add_flat2] at this
      exact this
    · intro r hr
      obtain ⟨i, hi', rfl⟩ := List.mem_map.1 hr
      exact (hY i (List.mem_range.1 hi')).1.1
    · intro r hr x hx
      obtain ⟨i, hi', rfl⟩ := List.mem_map.1 hr
      exact (hY i (List.mem_range.1 hi')).1.2 x hx
    · simp
      have : n * 2 ≤ n * bytes := Nat.mul_le_mul_left _ hb
      omega
end
end Go.Proofs.YtfhfjcfhanmbiaaGreat.Ev

/- Contracts: readings, comparisons, the parts of a survey. -/
namespace Go.Proofs.YtfhfjcfhanmbiaaGreat
open Go Go.RowKit
namespace Ev
theorem I64.lo {z : Int} (h : I64 z) : -9223372036854775808 ≤ z := h.1
theorem I64.hi {z : Int} (h : I64 z) : z < 9223372036854775808 := h.2
theorem RowsE.row7 {s : St} {a : Option Addr} {rs : List (List Int)} (h : RowsE s 7 a rs) {k : Nat} (hk : k < rs.length) : ∃ b o x0 x1 x2 x3 x4 x5 x6, a = some ⟨b, o, none⟩ ∧ rs[k]? = some [x0, x1, x2, x3, x4, x5, x6] ∧ Ats s b (o + k * 7) [.int .i64 x0, .int .i64 x1, .int .i64 x2, .int .i64 x3, .int .i64 x4, .int .i64 x5, .int .i64 x6] ∧ I64 x0 ∧ I64 x1 ∧ I64 x2 ∧ I64 x3 ∧ I64 x4 ∧ I64 x5 ∧ I64 x6 := by
  obtain ⟨b, o, r, h1, h2, h3, h4, h5⟩ := h.row hk
  obtain ⟨x0, r1, rfl, g1⟩ := list_len_succ h3
  obtain ⟨x1, r2, rfl, g2⟩ := list_len_succ g1
  obtain ⟨x2, r3, rfl, g3⟩ := list_len_succ g2
  obtain ⟨x3, r4, rfl, g4⟩ := list_len_succ g3
  obtain ⟨x4, r5, rfl, g5⟩ := list_len_succ g4
  obtain ⟨x5, r6, rfl, g6⟩ := list_len_succ g5
  obtain ⟨x6, r7, rfl, g7⟩ := list_len_succ g6
  have : r7 = [] := List.eq_nil_of_length_eq_zero g7
  subst this
  exact ⟨b, o, x0, x1, x2, x3, x4, x5, x6, h1, h2, h4, h5 x0 (by simp), h5 x1 (by simp), h5 x2 (by simp), h5 x3 (by simp), h5 x4 (by simp), h5 x5 (by simp), h5 x6 (by simp)⟩
theorem RowsE.row6 {s : St} {a : Option Addr} {rs : List (List Int)} (h : RowsE s 6 a rs) {k : Nat} (hk : k < rs.length) : ∃ b o z0 z1 z2 z3 z4 z5, a = some ⟨b, o, none⟩ ∧ rs[k]? = some [z0, z1, z2, z3, z4, z5] ∧ Ats s b (o + k * 6) [.int .i64 z0, .int .i64 z1, .int .i64 z2, .int .i64 z3, .int .i64 z4, .int .i64 z5] ∧ I64 z0 ∧ I64 z1 ∧ I64 z2 ∧ I64 z3 ∧ I64 z4 ∧ I64 z5 := by
  obtain ⟨b, o, r, h1, h2, h3, h4, h5⟩ := h.row hk
  obtain ⟨z0, r1, rfl, g1⟩ := list_len_succ h3
  obtain ⟨z1, r2, rfl, g2⟩ := list_len_succ g1
  obtain ⟨z2, r3, rfl, g3⟩ := list_len_succ g2
  obtain ⟨z3, r4, rfl, g4⟩ := list_len_succ g3
  obtain ⟨z4, r5, rfl, g5⟩ := list_len_succ g4
  obtain ⟨z5, r6, rfl, g6⟩ := list_len_succ g5
  have : r6 = [] := List.eq_nil_of_length_eq_zero g6
  subst this
  exact ⟨b, o, z0, z1, z2, z3, z4, z5, h1, h2, h4, h5 z0 (by simp), h5 z1 (by simp), h5 z2 (by simp), h5 z3 (by simp), h5 z4 (by simp), h5 z5 (by simp)⟩
def rdB (m : Int) (n : Int) : List (List Int) → Bool
  | [] => true
  | [x0, x1, x2, x3, x4, x5, x6] :: rs => decide ((1 ≤ x0 ∧ x0 ≤ 99999) ∧ (0 ≤ x1 ∧ x1 ≤ m - 1) ∧ (0 ≤ x2 ∧ x2 ≤ n - 1) ∧ (0 ≤ x4 ∧ x4 ≤ 1000) ∧ (0 ≤ x3 ∧ x3 ≤ 20000 - x4) ∧ (1 ≤ x5 ∧ x5 ≤ 99) ∧ (0 ≤ x6 ∧ x6 ≤ 100000)) && rdB m n rs
  | _ :: _ => false
theorem rdB_step (m : Int) (n : Int) {rs : List (List Int)} {k : Nat} {x0 x1 x2 x3 x4 x5 x6 : Int} (h : rs[k]? = some [x0, x1, x2, x3, x4, x5, x6]) (hi : rdB m n rs = rdB m n (rs.drop k)) : rdB m n rs = (decide ((1 ≤ x0 ∧ x0 ≤ 99999) ∧ (0 ≤ x1 ∧ x1 ≤ m - 1) ∧ (0 ≤ x2 ∧ x2 ≤ n - 1) ∧ (0 ≤ x4 ∧ x4 ≤ 1000) ∧ (0 ≤ x3 ∧ x3 ≤ 20000 - x4) ∧ (1 ≤ x5 ∧ x5 ≤ 99) ∧ (0 ≤ x6 ∧ x6 ≤ 100000)) && rdB m n (rs.drop (k + 1))) := by
  obtain ⟨hk, he⟩ := List.getElem?_eq_some_iff.1 h
  rw [hi, List.drop_eq_getElem_cons hk, he]; rfl
theorem rdB_bad {m : Int} {n : Int} {rs : List (List Int)} {k : Nat} {x0 x1 x2 x3 x4 x5 x6 : Int} (h : rs[k]? = some [x0, x1, x2, x3, x4, x5, x6]) (hi : rdB m n rs = rdB m n (rs.drop k)) (hn : ¬ ((1 ≤ x0 ∧ x0 ≤ 99999) ∧ (0 ≤ x1 ∧ x1 ≤ m - 1) ∧ (0 ≤ x2 ∧ x2 ≤ n - 1) ∧ (0 ≤ x4 ∧ x4 ≤ 1000) ∧ (0 ≤ x3 ∧ x3 ≤ 20000 - x4) ∧ (1 ≤ x5 ∧ x5 ≤ 99) ∧ (0 ≤ x6 ∧ x6 ≤ 100000))) : rdB m n rs = false := by
  rw [rdB_step m n h hi, decide_eq_false hn]; rfl
theorem rdB_good {m : Int} {n : Int} {rs : List (List Int)} {k : Nat} {x0 x1 x2 x3 x4 x5 x6 : Int} (h : rs[k]? = some [x0, x1, x2, x3, x4, x5, x6]) (hi : rdB m n rs = rdB m n (rs.drop k)) (hn : (1 ≤ x0 ∧ x0 ≤ 99999) ∧ (0 ≤ x1 ∧ x1 ≤ m - 1) ∧ (0 ≤ x2 ∧ x2 ≤ n - 1) ∧ (0 ≤ x4 ∧ x4 ≤ 1000) ∧ (0 ≤ x3 ∧ x3 ≤ 20000 - x4) ∧ (1 ≤ x5 ∧ x5 ≤ 99) ∧ (0 ≤ x6 ∧ x6 ≤ 100000)) : rdB m n rs = rdB m n (rs.drop (k + 1)) := by
  rw [rdB_step m n h hi, decide_eq_true hn]; rfl
theorem rdB_end {m : Int} {n : Int} {rs : List (List Int)} {k : Nat} (hi : rdB m n rs = rdB m n (rs.drop k)) (hk : rs.length ≤ k) : rdB m n rs = true := by
  rw [hi, List.drop_eq_nil_of_le hk]; rfl
theorem rdB_at {m : Int} {n : Int} {x0 x1 x2 x3 x4 x5 x6 : Int} : ∀ {rs : List (List Int)} {k : Nat}, rdB m n rs = true → rs[k]? = some [x0, x1, x2, x3, x4, x5, x6] → (1 ≤ x0 ∧ x0 ≤ 99999) ∧ (0 ≤ x1 ∧ x1 ≤ m - 1) ∧ (0 ≤ x2 ∧ x2 ≤ n - 1) ∧ (0 ≤ x4 ∧ x4 ≤ 1000) ∧ (0 ≤ x3 ∧ x3 ≤ 20000 - x4) ∧ (1 ≤ x5 ∧ x5 ≤ 99) ∧ (0 ≤ x6 ∧ x6 ≤ 100000)
  | [], _, _, h => by simp at h
  | r :: rs, 0, h1, h => by
    simp only [List.getElem?_cons_zero, Option.some.injEq] at h
    subst h
    have h2 : (decide ((1 ≤ x0 ∧ x0 ≤ 99999) ∧ (0 ≤ x1 ∧ x1 ≤ m - 1) ∧ (0 ≤ x2 ∧ x2 ≤ n - 1) ∧ (0 ≤ x4 ∧ x4 ≤ 1000) ∧ (0 ≤ x3 ∧ x3 ≤ 20000 - x4) ∧ (1 ≤ x5 ∧ x5 ≤ 99) ∧ (0 ≤ x6 ∧ x6 ≤ 100000)) && rdB m n rs) = true := h1
    rw [Bool.and_eq_true] at h2
    exact of_decide_eq_true h2.1
  | r :: rs, k + 1, h1, h => by
    refine rdB_at (rs := rs) (k := k) ?_ (by simpa using h)
    unfold rdB at h1
    split at h1
    · rename_i h2; cases h2
    · rename_i h2; cases h2; rw [Bool.and_eq_true] at h1; exact h1.2
    · cases h1
def cpB : List (List Int) → Bool
  | [] => true
  | [z0, z1, z2, z3, z4, z5] :: rs => decide ((1 ≤ z0 ∧ z0 ≤ 99999) ∧ (1 ≤ z1 ∧ z1 ≤ 99) ∧ (0 ≤ z2 ∧ z2 ≤ z3 ∧ z3 ≤ 100000) ∧ (-1000 ≤ z4 ∧ z4 ≤ z5 ∧ z5 ≤ 1000)) && cpB rs
  | _ :: _ => false
theorem cpB_step  {rs : List (List Int)} {k : Nat} {z0 z1 z2 z3 z4 z5 : Int} (h : rs[k]? = some [z0, z1, z2, z3, z4, z5]) (hi : cpB rs = cpB (rs.drop k)) : cpB rs = (decide ((1 ≤ z0 ∧ z0 ≤ 99999) ∧ (1 ≤ z1 ∧ z1 ≤ 99) ∧ (0 ≤ z2 ∧ z2 ≤ z3 ∧ z3 ≤ 100000) ∧ (-1000 ≤ z4 ∧ z4 ≤ z5 ∧ z5 ≤ 1000)) && cpB (rs.drop (k + 1))) := by
  obtain ⟨hk, he⟩ := List.getElem?_eq_some_iff.1 h
  rw [hi, List.drop_eq_getElem_cons hk, he]; rfl
theorem cpB_bad  {rs : List (List Int)} {k : Nat} {z0 z1 z2 z3 z4 z5 : Int} (h : rs[k]? = some [z0, z1, z2, z3, z4, z5]) (hi : cpB rs = cpB (rs.drop k)) (hn : ¬ ((1 ≤ z0 ∧ z0 ≤ 99999) ∧ (1 ≤ z1 ∧ z1 ≤ 99) ∧ (0 ≤ z2 ∧ z2 ≤ z3 ∧ z3 ≤ 100000) ∧ (-1000 ≤ z4 ∧ z4 ≤ z5 ∧ z5 ≤ 1000))) : cpB rs = false := by
  rw [cpB_step  h hi, decide_eq_false hn]; rfl
theorem cpB_good  {rs : List (List Int)} {k : Nat} {z0 z1 z2 z3 z4 z5 : Int} (h : rs[k]? = some [z0, z1, z2, z3, z4, z5]) (hi : cpB rs = cpB (rs.drop k)) (hn : (1 ≤ z0 ∧ z0 ≤ 99999) ∧ (1 ≤ z1 ∧ z1 ≤ 99) ∧ (0 ≤ z2 ∧ z2 ≤ z3 ∧ z3 ≤ 100000) ∧ (-1000 ≤ z4 ∧ z4 ≤ z5 ∧ z5 ≤ 1000)) : cpB rs = cpB (rs.drop (k + 1)) := by
  rw [cpB_step  h hi, decide_eq_true hn]; rfl
theorem cpB_end  {rs : List (List Int)} {k : Nat} (hi : cpB rs = cpB (rs.drop k)) (hk : rs.length ≤ k) : cpB rs = true := by
  rw [hi, List.drop_eq_nil_of_le hk]; rfl
theorem cpB_at  {z0 z1 z2 z3 z4 z5 : Int} : ∀ {rs : List (List Int)} {k : Nat}, cpB rs = true → rs[k]? = some [z0, z1, z2, z3, z4, z5] → (1 ≤ z0 ∧ z0 ≤ 99999) ∧ (1 ≤ z1 ∧ z1 ≤ 99) ∧ (0 ≤ z2 ∧ z2 ≤ z3 ∧ z3 ≤ 100000) ∧ (-1000 ≤ z4 ∧ z4 ≤ z5 ∧ z5 ≤ 1000)
  | [], _, _, h => by simp at h
  | r :: rs, 0, h1, h => by
    simp only [List.getElem?_cons_zero, Option.some.injEq] at h
    subst h
    have h2 : (decide ((1 ≤ z0 ∧ z0 ≤ 99999) ∧ (1 ≤ z1 ∧ z1 ≤ 99) ∧ (0 ≤ z2 ∧ z2 ≤ z3 ∧ z3 ≤ 100000) ∧ (-1000 ≤ z4 ∧ z4 ≤ z5 ∧ z5 ≤ 1000)) && cpB rs) = true := h1
    rw [Bool.and_eq_true] at h2
    exact of_decide_eq_true h2.1
  | r :: rs, k + 1, h1, h => by
    refine cpB_at (rs := rs) (k := k) ?_ (by simpa using h)
    unfold cpB at h1
    split at h1
    · rename_i h2; cases h2
    · rename_i h2; cases h2; rw [Bool.and_eq_true] at h1; exact h1.2
    · cases h1

/-- What the parts of a survey are: 0, or the first error. -/
def prt (sp : Prop) [Decidable sp] (l1 l2 : List Int) (rs cs : List (List Int)) : Int :=
  if sp then (if 60 < (rs.length : Int) ∨ 20 < (cs.length : Int) then 2 else if rdB (l1.length : Int) (l2.length : Int) rs = true then (if cpB cs = true then 0 else 32) else 31) else 30

section
variable {X : FuncId → List Value → St → (Value → St → Bool) → Bool}
theorem checkReading_s (n : Nat) (d r al up : Int) (a1 a2 : Option Addr) (c1 c2 : Nat) (l1 l2 : List Int) (x0 x1 x2 x3 x4 x5 x6 : Int) (s : St) (hs : Wf s) (hn : 562949953421312 ≤ n) (hl1 : IntsE s a1 l1) (hl2 : IntsE s a2 l2) : Spec Tryz.prog (tabK tabw) X (n + 200) 64 [.agg ⟨[.int .i64 d, .int .i64 r, .slice a1 l1.length c1, .slice a2 l2.length c2, .int .i64 al, .int .i64 up]⟩, .agg ⟨[.int .i64 x0, .int .i64 x1, .int .i64 x2, .int .i64 x3, .int .i64 x4, .int .i64 x5, .int .i64 x6]⟩] s (fun v A => v = .int .i64 (if (1 ≤ x0 ∧ x0 ≤ 99999) ∧ (0 ≤ x1 ∧ x1 ≤ (l1.length : Int) - 1) ∧ (0 ≤ x2 ∧ x2 ≤ (l2.length : Int) - 1) ∧ (0 ≤ x4 ∧ x4 ≤ 1000) ∧ (0 ≤ x3 ∧ x3 ≤ 20000 - x4) ∧ (1 ≤ x5 ∧ x5 ≤ 99) ∧ (0 ≤ x6 ∧ x6 ≤ 100000) then 0 else 31) ∧ A = []) := by
 refine enter bw64_at rfl hs ?_
 unfold bw64
 have hlen1 := hl1.len
 have hlen2 := hl2.len
 refine rS (kO rfl (a_box rfl rfl rfl (fun b1 => (kO rfl (a_box rfl rfl rfl (fun b2 => (kM rfl rfl (i_nil (rS (kO rfl (a_fa rfl (kO rfl (a_ld rfl .here rfl (kO rfl (a_callB rfl rfl (fun s1 h1 => isSource_s _ _ s1 h1.wf) (fun h3 => ?_) (fun h3 => ?_))))))))))))))))
 ·refine kM rfl rfl (kG rfl rfl (a_lda rfl (by decide) (.next .here) rfl (kG rfl rfl (a_fa rfl (kG rfl rfl (a_ld rfl .here rfl (kG rfl rfl (a_fa rfl (kG rfl rfl (a_ld rfl .here rfl (kG rfl rfl (a_callB rfl rfl (fun s1 h1 => has_s _ _ _ _ _ _ _ _ _ _ _ _ _ s1 h1.wf (by omega) (hl1.ext hs h1.2.1) (hl2.ext hs h1.2.1)) (fun h4 => ?_) (fun h4 => ?_)))))))))))))
  ·refine kO rfl (a_pick_t rfl rfl rfl (kM rfl rfl (kG rfl rfl (a_fa rfl (kG rfl rfl (a_ld rfl .here rfl (kG rfl rfl (a_callB rfl rfl (fun s1 h1 => inside_s _ _ _ _ s1 h1.wf) (fun h5 => ?_) (fun h5 => ?_)))))))))
   ·refine kO rfl (a_pick_t rfl rfl rfl (kM rfl rfl (kG rfl rfl (a_fa rfl (kG rfl rfl (a_ld rfl .here rfl (kG rfl rfl (a_fa rfl (kG rfl rfl (a_ld rfl .here rfl (kG rfl rfl (a_sub rfl rfl (by omega) (kG rfl rfl (a_callB rfl rfl (fun s1 h1 => inside_s _ _ _ _ s1 h1.wf) (fun h6 => ?_) (fun h6 => ?_)))))))))))))))
    ·refine kO rfl (a_pick_t rfl rfl rfl (kM rfl rfl (kG rfl rfl (a_fa rfl (kG rfl rfl (a_ld rfl .here rfl (kG rfl rfl (a_callB rfl rfl (fun s1 h1 => inside_s _ _ _ _ s1 h1.wf) (fun h7 => ?_) (fun h7 => ?_)))))))))
     ·refine kO rfl (a_pick_t rfl rfl rfl (kM rfl rfl (kG rfl rfl (a_fa rfl (kG rfl rfl (a_ld rfl .here rfl (kG rfl rfl (a_callB rfl rfl (fun s1 h1 => inside_s _ _ _ _ s1 h1.wf) (fun h8 => ?_) (fun h8 => ?_)))))))))
      ·refine kO rfl (a_pick_t rfl rfl rfl (kM rfl rfl (i_nil (rQ (rS (kM rfl rfl (kO rfl (a_not rfl (i_nil (r_cond_f rfl (r_skip (then_n (rS (kM rfl rfl (i_nil (r_ret (end1 rfl ⟨congrArg (Value.int .i64) ?_, rfl⟩)))))))))))))))))
       first | exact (if_pos (by omega)).symm | exact (if_neg (by omega)).symm
      ·refine kO rfl (a_pick_t rfl rfl rfl (kM rfl rfl (i_nil (rQ (rS (kM rfl rfl (kO rfl (a_not rfl (i_nil (r_cond_t rfl (rS (kM rfl rfl (i_nil (r_ret (then_r (end1 rfl ⟨congrArg (Value.int .i64) ?_, rfl⟩))))))))))))))))
       first | exact (if_pos (by omega)).symm | exact (if_neg (by omega)).symm
     ·refine kO rfl (a_pick_t rfl rfl rfl (kM rfl rfl (i_no rfl rfl (i_no rfl rfl (i_no rfl rfl (kO rfl (a_pick_f rfl rfl rfl (kM rfl rfl (i_nil (rQ (rS (kM rfl rfl (kO rfl (a_not rfl (i_nil (r_cond_t rfl (rS (kM rfl rfl (i_nil (r_ret (then_r (end1 rfl ⟨congrArg (Value.int .i64) ?_, rfl⟩))))))))))))))))))))))
      first | exact (if_pos (by omega)).symm | exact (if_neg (by omega)).symm
    ·refine kO rfl (a_pick_t rfl rfl rfl (kM rfl rfl (i_no rfl rfl (i_no rfl rfl (i_no rfl rfl (kO rfl (a_pick_f rfl rfl rfl (kM rfl rfl (i_no rfl rfl (i_no rfl rfl (i_no rfl rfl (kO rfl (a_pick_f rfl rfl rfl (kM rfl rfl (i_nil (rQ (rS (kM rfl rfl (kO rfl (a_not rfl (i_nil (r_cond_t rfl (rS (kM rfl rfl (i_nil (r_ret (then_r ?_)))))))))))))))))))))))))))
     refine end1 rfl ⟨congrArg (Value.int .i64) ?_, rfl⟩
     first | exact (if_pos (by omega)).symm | exact (if_neg (by omega)).symm
   ·refine kO rfl (a_pick_t rfl rfl rfl (kM rfl rfl (i_no rfl rfl (i_no rfl rfl (i_no rfl rfl (i_no rfl rfl (i_no rfl rfl (i_no rfl rfl (kO rfl (a_pick_f rfl rfl rfl (kM rfl rfl (i_no rfl rfl (i_no rfl rfl (i_no rfl rfl (kO rfl (a_pick_f rfl rfl rfl (kM rfl rfl (i_no rfl rfl (i_no rfl rfl (i_no rfl rfl (kO rfl (a_pick_f rfl rfl rfl (kM rfl rfl (i_nil (rQ (rS (kM rfl rfl ?_)))))))))))))))))))))))))))
    refine kO rfl (a_not rfl (i_nil (r_cond_t rfl (rS (kM rfl rfl (i_nil (r_ret (then_r (end1 rfl ⟨congrArg (Value.int .i64) ?_, rfl⟩)))))))))
    first | exact (if_pos (by omega)).symm | exact (if_neg (by omega)).symm
  ·refine kO rfl (a_pick_t rfl rfl rfl (kM rfl rfl (i_no rfl rfl (i_no rfl rfl (i_no rfl rfl (kO rfl (a_pick_f rfl rfl rfl (kM rfl rfl (i_no rfl rfl (i_no rfl rfl (i_no rfl rfl (i_no rfl rfl (i_no rfl rfl (i_no rfl rfl (kO rfl (a_pick_f rfl rfl rfl (kM rfl rfl (i_no rfl rfl (i_no rfl rfl (i_no rfl rfl (kO rfl (a_pick_f rfl rfl rfl (kM rfl rfl (i_no rfl rfl (i_no rfl rfl (i_no rfl rfl (kO rfl (a_pick_f rfl rfl rfl ?_))))))))))))))))))))))))))))
   refine kM rfl rfl (i_nil (rQ (rS (kM rfl rfl (kO rfl (a_not rfl (i_nil (r_cond_t rfl (rS (kM rfl rfl (i_nil (r_ret (then_r (end1 rfl ⟨congrArg (Value.int .i64) ?_, rfl⟩))))))))))))))
   first | exact (if_pos (by omega)).symm | exact (if_neg (by omega)).symm
 ·refine kM rfl rfl (i_no rfl rfl (i_no rfl rfl (i_no rfl rfl (i_no rfl rfl (i_no rfl rfl (i_no rfl rfl (kO rfl (a_pick_f rfl rfl rfl (kM rfl rfl (i_no rfl rfl (i_no rfl rfl (i_no rfl rfl (kO rfl (a_pick_f rfl rfl rfl (kM rfl rfl (i_no rfl rfl (i_no rfl rfl (i_no rfl rfl (i_no rfl rfl (i_no rfl rfl (i_no rfl rfl (kO rfl (a_pick_f rfl rfl rfl (kM rfl rfl (i_no rfl rfl (i_no rfl rfl ?_))))))))))))))))))))))))))
  refine i_no rfl rfl (kO rfl (a_pick_f rfl rfl rfl (kM rfl rfl (i_no rfl rfl (i_no rfl rfl (i_no rfl rfl (kO rfl (a_pick_f rfl rfl rfl (kM rfl rfl (i_nil (rQ (rS (kM rfl rfl (kO rfl (a_not rfl (i_nil (r_cond_t rfl (rS (kM rfl rfl (i_nil (r_ret (then_r (end1 rfl ⟨congrArg (Value.int .i64) ?_, rfl⟩)))))))))))))))))))))))
  first | exact (if_pos (by omega)).symm | exact (if_neg (by omega)).symm

theorem ValidReading_s (n : Nat) (d r al up : Int) (a1 a2 : Option Addr) (c1 c2 : Nat) (l1 l2 : List Int) (x0 x1 x2 x3 x4 x5 x6 : Int) (s : St) (hs : Wf s) (hn : 562949953421312 ≤ n) (hl1 : IntsE s a1 l1) (hl2 : IntsE s a2 l2) : Spec Tryz.prog (tabK tabw) X (n + 200) 49 [.agg ⟨[.int .i64 d, .int .i64 r, .slice a1 l1.length c1, .slice a2 l2.length c2, .int .i64 al, .int .i64 up]⟩, .agg ⟨[.int .i64 x0, .int .i64 x1, .int .i64 x2, .int .i64 x3, .int .i64 x4, .int .i64 x5, .int .i64 x6]⟩] s (fun v A => v = .bool (decide ((1 ≤ x0 ∧ x0 ≤ 99999) ∧ (0 ≤ x1 ∧ x1 ≤ (l1.length : Int) - 1) ∧ (0 ≤ x2 ∧ x2 ≤ (l2.length : Int) - 1) ∧ (0 ≤ x4 ∧ x4 ≤ 1000) ∧ (0 ≤ x3 ∧ x3 ≤ 20000 - x4) ∧ (1 ≤ x5 ∧ x5 ≤ 99) ∧ (0 ≤ x6 ∧ x6 ≤ 100000))) ∧ A = []) := by
 refine enter bw49_at rfl hs ?_
 unfold bw49
 have hlen1 := hl1.len
 have hlen2 := hl2.len
 refine rS (kO rfl (a_box rfl rfl rfl (fun b1 => (kO rfl (a_box rfl rfl rfl (fun b2 => (kM rfl rfl (i_nil (rS (kO rfl (a_fa rfl (kO rfl (a_ld rfl .here rfl (kO rfl (a_callB rfl rfl (fun s1 h1 => In_s _ _ _ _ s1 h1.wf) (fun h3 => ?_) (fun h3 => ?_))))))))))))))))
 ·refine kM rfl rfl (kG rfl rfl (a_fa rfl (kG rfl rfl (a_ld rfl .here rfl (kG rfl rfl (a_fa rfl (kG rfl rfl (a_ld rfl (.next .here) rfl (kG rfl rfl (a_lenx rfl hl1.spot (kG rfl rfl (a_sub rfl rfl (by omega) (kG rfl rfl (a_callB rfl rfl (fun s1 h1 => In_s _ _ _ _ s1 h1.wf) (fun h4 => ?_) (fun h4 => ?_)))))))))))))))
  ·refine kO rfl (a_pick_t rfl rfl rfl (kM rfl rfl (kG rfl rfl (a_fa rfl (kG rfl rfl (a_ld rfl .here rfl (kG rfl rfl (a_fa rfl (kG rfl rfl (a_ld rfl (.next .here) rfl (kG rfl rfl (a_lenx rfl hl2.spot (kG rfl rfl (a_sub rfl rfl (by omega) (kG rfl rfl (a_callB rfl rfl (fun s1 h1 => In_s _ _ _ _ s1 h1.wf) (fun h5 => ?_) (fun h5 => ?_)))))))))))))))))
   ·refine kO rfl (a_pick_t rfl rfl rfl (kM rfl rfl (kG rfl rfl (a_fa rfl (kG rfl rfl (a_ld rfl .here rfl (kG rfl rfl (a_callB rfl rfl (fun s1 h1 => In_s _ _ _ _ s1 h1.wf) (fun h6 => ?_) (fun h6 => ?_)))))))))
    ·refine kO rfl (a_pick_t rfl rfl rfl (kM rfl rfl (kG rfl rfl (a_fa rfl (kG rfl rfl (a_ld rfl .here rfl (kG rfl rfl (a_fa rfl (kG rfl rfl (a_ld rfl .here rfl (kG rfl rfl (a_sub rfl rfl (by omega) (kG rfl rfl (a_callB rfl rfl (fun s1 h1 => In_s _ _ _ _ s1 h1.wf) (fun h7 => ?_) (fun h7 => ?_)))))))))))))))
     ·refine kO rfl (a_pick_t rfl rfl rfl (kM rfl rfl (kG rfl rfl (a_fa rfl (kG rfl rfl (a_ld rfl .here rfl (kG rfl rfl (a_callB rfl rfl (fun s1 h1 => In_s _ _ _ _ s1 h1.wf) (fun h8 => ?_) (fun h8 => ?_)))))))))
      ·refine kO rfl (a_pick_t rfl rfl rfl (kM rfl rfl (kG rfl rfl (a_fa rfl (kG rfl rfl (a_ld rfl .here rfl (kG rfl rfl (a_callB rfl rfl (fun s1 h1 => In_s _ _ _ _ s1 h1.wf) (fun h9 => ?_) (fun h9 => ?_)))))))))
       ·refine kO rfl (a_pick_t rfl rfl rfl (kM rfl rfl (i_nil (r_ret (end1 rfl ⟨congrArg Value.bool ?_, rfl⟩)))))
        first | exact (decide_eq_true (by omega)).symm | exact (decide_eq_false (by omega)).symm
       ·refine kO rfl (a_pick_t rfl rfl rfl (kM rfl rfl (i_nil (r_ret (end1 rfl ⟨congrArg Value.bool ?_, rfl⟩)))))
        first | exact (decide_eq_true (by omega)).symm | exact (decide_eq_false (by omega)).symm
      ·refine kO rfl (a_pick_t rfl rfl rfl (kM rfl rfl (i_no rfl rfl (i_no rfl rfl (i_no rfl rfl (kO rfl (a_pick_f rfl rfl rfl (kM rfl rfl (i_nil (r_ret (end1 rfl ⟨congrArg Value.bool ?_, rfl⟩)))))))))))
       first | exact (decide_eq_true (by omega)).symm | exact (decide_eq_false (by omega)).symm
     ·refine kO rfl (a_pick_t rfl rfl rfl (kM rfl rfl (i_no rfl rfl (i_no rfl rfl (i_no rfl rfl (kO rfl (a_pick_f rfl rfl rfl (kM rfl rfl (i_no rfl rfl (i_no rfl rfl (i_no rfl rfl (kO rfl (a_pick_f rfl rfl rfl (kM rfl rfl (i_nil (r_ret (end1 rfl ⟨congrArg Value.bool ?_, rfl⟩)))))))))))))))))
      first | exact (decide_eq_true (by omega)).symm | exact (decide_eq_false (by omega)).symm
    ·refine kO rfl (a_pick_t rfl rfl rfl (kM rfl rfl (i_no rfl rfl (i_no rfl rfl (i_no rfl rfl (i_no rfl rfl (i_no rfl rfl (i_no rfl rfl (kO rfl (a_pick_f rfl rfl rfl (kM rfl rfl (i_no rfl rfl (i_no rfl rfl (i_no rfl rfl (kO rfl (a_pick_f rfl rfl rfl (kM rfl rfl (i_no rfl rfl (i_no rfl rfl (i_no rfl rfl (kO rfl (a_pick_f rfl rfl rfl (kM rfl rfl (i_nil (r_ret (end1 rfl ⟨congrArg Value.bool ?_, rfl⟩))))))))))))))))))))))))))
     first | exact (decide_eq_true (by omega)).symm | exact (decide_eq_false (by omega)).symm
   ·refine kO rfl (a_pick_t rfl rfl rfl (kM rfl rfl (i_no rfl rfl (i_no rfl rfl (i_no rfl rfl (kO rfl (a_pick_f rfl rfl rfl (kM rfl rfl (i_no rfl rfl (i_no rfl rfl (i_no rfl rfl (i_no rfl rfl (i_no rfl rfl (i_no rfl rfl (kO rfl (a_pick_f rfl rfl rfl (kM rfl rfl (i_no rfl rfl (i_no rfl rfl (i_no rfl rfl (kO rfl (a_pick_f rfl rfl rfl (kM rfl rfl (i_no rfl rfl (i_no rfl rfl (i_no rfl rfl (kO rfl (a_pick_f rfl rfl rfl ?_))))))))))))))))))))))))))))
    refine kM rfl rfl (i_nil (r_ret (end1 rfl ⟨congrArg Value.bool ?_, rfl⟩)))
    first | exact (decide_eq_true (by omega)).symm | exact (decide_eq_false (by omega)).symm
  ·refine kO rfl (a_pick_t rfl rfl rfl (kM rfl rfl (i_no rfl rfl (i_no rfl rfl (i_no rfl rfl (i_no rfl rfl (i_no rfl rfl (i_no rfl rfl (i_no rfl rfl (kO rfl (a_pick_f rfl rfl rfl (kM rfl rfl (i_no rfl rfl (i_no rfl rfl (i_no rfl rfl (kO rfl (a_pick_f rfl rfl rfl (kM rfl rfl (i_no rfl rfl (i_no rfl rfl (i_no rfl rfl (i_no rfl rfl (i_no rfl rfl (i_no rfl rfl (kO rfl (a_pick_f rfl rfl rfl (kM rfl rfl ?_)))))))))))))))))))))))))))
   refine i_no rfl rfl (i_no rfl rfl (i_no rfl rfl (kO rfl (a_pick_f rfl rfl rfl (kM rfl rfl (i_no rfl rfl (i_no rfl rfl (i_no rfl rfl (kO rfl (a_pick_f rfl rfl rfl (kM rfl rfl (i_nil (r_ret (end1 rfl ⟨congrArg Value.bool ?_, rfl⟩))))))))))))))
   first | exact (decide_eq_true (by omega)).symm | exact (decide_eq_false (by omega)).symm
 ·refine kM rfl rfl (i_no rfl rfl (i_no rfl rfl (i_no rfl rfl (i_no rfl rfl (i_no rfl rfl (i_no rfl rfl (i_no rfl rfl (kO rfl (a_pick_f rfl rfl rfl (kM rfl rfl (i_no rfl rfl (i_no rfl rfl (i_no rfl rfl (i_no rfl rfl (i_no rfl rfl (i_no rfl rfl (i_no rfl rfl (kO rfl (a_pick_f rfl rfl rfl (kM rfl rfl (i_no rfl rfl (i_no rfl rfl (i_no rfl rfl (kO rfl (a_pick_f rfl rfl rfl (kM rfl rfl ?_))))))))))))))))))))))))))
  refine i_no rfl rfl (i_no rfl rfl (i_no rfl rfl (i_no rfl rfl (i_no rfl rfl (i_no rfl rfl (kO rfl (a_pick_f rfl rfl rfl (kM rfl rfl (i_no rfl rfl (i_no rfl rfl (i_no rfl rfl (kO rfl (a_pick_f rfl rfl rfl (kM rfl rfl (i_no rfl rfl (i_no rfl rfl (i_no rfl rfl (kO rfl (a_pick_f rfl rfl rfl (kM rfl rfl (i_nil (r_ret (end1 rfl ⟨congrArg Value.bool ?_, rfl⟩)))))))))))))))))))))))
  first | exact (decide_eq_true (by omega)).symm | exact (decide_eq_false (by omega)).symm

theorem checkCompare_s (n : Nat) (z0 z1 z2 z3 z4 z5 : Int) (s : St) (hs : Wf s) : Spec Tryz.prog (tabK tabw) X (n + 100) 112 [.agg ⟨[.int .i64 z0, .int .i64 z1, .int .i64 z2, .int .i64 z3, .int .i64 z4, .int .i64 z5]⟩] s (fun v A => v = .int .i64 (if (1 ≤ z0 ∧ z0 ≤ 99999) ∧ (1 ≤ z1 ∧ z1 ≤ 99) ∧ (0 ≤ z2 ∧ z2 ≤ z3 ∧ z3 ≤ 100000) ∧ (-1000 ≤ z4 ∧ z4 ≤ z5 ∧ z5 ≤ 1000) then 0 else 32) ∧ A = []) := by
 refine enter bw112_at rfl hs ?_
 unfold bw112
 refine rS (kO rfl (a_box rfl rfl rfl (fun b1 => (kM rfl rfl (i_nil (rS (kO rfl (a_fa rfl (kO rfl (a_ld rfl .here rfl (kO rfl (a_callB rfl rfl (fun s1 h1 => isSource_s _ _ s1 h1.wf) (fun h2 => ?_) (fun h2 => ?_)))))))))))))
 ·refine kM rfl rfl (kG rfl rfl (a_fa rfl (kG rfl rfl (a_ld rfl .here rfl (kG rfl rfl (a_callB rfl rfl (fun s1 h1 => inside_s _ _ _ _ s1 h1.wf) (fun h3 => ?_) (fun h3 => ?_)))))))
  ·refine kO rfl (a_pick_t rfl rfl rfl (kM rfl rfl (kG rfl rfl (a_fa rfl (kG rfl rfl (a_ld rfl .here rfl (kG rfl rfl (a_leq rfl rfl (fun h4 => ?_) (fun h4 => ?_)))))))))
   ·refine kO rfl (a_pick_t rfl rfl rfl (kM rfl rfl (kG rfl rfl (a_fa rfl (kG rfl rfl (a_ld rfl .here rfl (kG rfl rfl (a_fa rfl (kG rfl rfl (a_ld rfl .here rfl (kG rfl rfl (a_leq rfl rfl (fun h5 => ?_) (fun h5 => ?_)))))))))))))
    ·refine kO rfl (a_pick_t rfl rfl rfl (kM rfl rfl (kG rfl rfl (a_fa rfl (kG rfl rfl (a_ld rfl .here rfl (kG rfl rfl (a_leq rfl rfl (fun h6 => ?_) (fun h6 => ?_)))))))))
     ·refine kO rfl (a_pick_t rfl rfl rfl (kM rfl rfl (kG rfl rfl (a_fa rfl (kG rfl rfl (a_ld rfl .here rfl (kG rfl rfl (a_leq rfl rfl (fun h7 => ?_) (fun h7 => ?_)))))))))
      ·refine kO rfl (a_pick_t rfl rfl rfl (kM rfl rfl (kG rfl rfl (a_fa rfl (kG rfl rfl (a_ld rfl .here rfl (kG rfl rfl (a_fa rfl (kG rfl rfl (a_ld rfl .here rfl (kG rfl rfl (a_leq rfl rfl (fun h8 => ?_) (fun h8 => ?_)))))))))))))
       ·refine kO rfl (a_pick_t rfl rfl rfl (kM rfl rfl (kG rfl rfl (a_fa rfl (kG rfl rfl (a_ld rfl .here rfl (kG rfl rfl (a_leq rfl rfl (fun h9 => ?_) (fun h9 => ?_)))))))))
        ·refine kO rfl (a_pick_t rfl rfl rfl (kM rfl rfl (i_nil (rQ (rS (kM rfl rfl (kO rfl (a_not rfl (i_nil (r_cond_f rfl (r_skip (then_n (rS (kM rfl rfl (i_nil (r_ret (end1 rfl ⟨congrArg (Value.int .i64) ?_, rfl⟩)))))))))))))))))
         first | exact (if_pos (by omega)).symm | exact (if_neg (by omega)).symm
        ·refine kO rfl (a_pick_t rfl rfl rfl (kM rfl rfl (i_nil (rQ (rS (kM rfl rfl (kO rfl (a_not rfl (i_nil (r_cond_t rfl (rS (kM rfl rfl (i_nil (r_ret (then_r (end1 rfl ⟨congrArg (Value.int .i64) ?_, rfl⟩))))))))))))))))
         first | exact (if_pos (by omega)).symm | exact (if_neg (by omega)).symm
       ·refine kO rfl (a_pick_t rfl rfl rfl (kM rfl rfl (i_no rfl rfl (i_no rfl rfl (i_no rfl rfl (kO rfl (a_pick_f rfl rfl rfl (kM rfl rfl (i_nil (rQ (rS (kM rfl rfl (kO rfl (a_not rfl (i_nil (r_cond_t rfl (rS (kM rfl rfl (i_nil (r_ret (then_r (end1 rfl ⟨congrArg (Value.int .i64) ?_, rfl⟩))))))))))))))))))))))
        first | exact (if_pos (by omega)).symm | exact (if_neg (by omega)).symm
      ·refine kO rfl (a_pick_t rfl rfl rfl (kM rfl rfl (i_no rfl rfl (i_no rfl rfl (i_no rfl rfl (i_no rfl rfl (i_no rfl rfl (kO rfl (a_pick_f rfl rfl rfl (kM rfl rfl (i_no rfl rfl (i_no rfl rfl (i_no rfl rfl (kO rfl (a_pick_f rfl rfl rfl (kM rfl rfl (i_nil (rQ (rS (kM rfl rfl (kO rfl (a_not rfl (i_nil (r_cond_t rfl (rS (kM rfl rfl (i_nil ?_)))))))))))))))))))))))))))
       refine r_ret (then_r (end1 rfl ⟨congrArg (Value.int .i64) ?_, rfl⟩))
       first | exact (if_pos (by omega)).symm | exact (if_neg (by omega)).symm
     ·refine kO rfl (a_pick_t rfl rfl rfl (kM rfl rfl (i_no rfl rfl (i_no rfl rfl (i_no rfl rfl (kO rfl (a_pick_f rfl rfl rfl (kM rfl rfl (i_no rfl rfl (i_no rfl rfl (i_no rfl rfl (i_no rfl rfl (i_no rfl rfl (kO rfl (a_pick_f rfl rfl rfl (kM rfl rfl (i_no rfl rfl (i_no rfl rfl (i_no rfl rfl (kO rfl (a_pick_f rfl rfl rfl (kM rfl rfl (i_nil (rQ (rS (kM rfl rfl (kO rfl (a_not rfl ?_))))))))))))))))))))))))))))
      refine i_nil (r_cond_t rfl (rS (kM rfl rfl (i_nil (r_ret (then_r (end1 rfl ⟨congrArg (Value.int .i64) ?_, rfl⟩)))))))
      first | exact (if_pos (by omega)).symm | exact (if_neg (by omega)).symm
    ·refine kO rfl (a_pick_t rfl rfl rfl (kM rfl rfl (i_no rfl rfl (i_no rfl rfl (i_no rfl rfl (kO rfl (a_pick_f rfl rfl rfl (kM rfl rfl (i_no rfl rfl (i_no rfl rfl (i_no rfl rfl (kO rfl (a_pick_f rfl rfl rfl (kM rfl rfl (i_no rfl rfl (i_no rfl rfl (i_no rfl rfl (i_no rfl rfl (i_no rfl rfl (kO rfl (a_pick_f rfl rfl rfl (kM rfl rfl (i_no rfl rfl (i_no rfl rfl (i_no rfl rfl (kO rfl (a_pick_f rfl rfl rfl (kM rfl rfl ?_))))))))))))))))))))))))))))
     refine i_nil (rQ (rS (kM rfl rfl (kO rfl (a_not rfl (i_nil (r_cond_t rfl (rS (kM rfl rfl (i_nil (r_ret (then_r (end1 rfl ⟨congrArg (Value.int .i64) ?_, rfl⟩)))))))))))))
     first | exact (if_pos (by omega)).symm | exact (if_neg (by omega)).symm
   ·refine kO rfl (a_pick_t rfl rfl rfl (kM rfl rfl (i_no rfl rfl (i_no rfl rfl (i_no rfl rfl (i_no rfl rfl (i_no rfl rfl (kO rfl (a_pick_f rfl rfl rfl (kM rfl rfl (i_no rfl rfl (i_no rfl rfl (i_no rfl rfl (kO rfl (a_pick_f rfl rfl rfl (kM rfl rfl (i_no rfl rfl (i_no rfl rfl (i_no rfl rfl (kO rfl (a_pick_f rfl rfl rfl (kM rfl rfl (i_no rfl rfl (i_no rfl rfl (i_no rfl rfl (i_no rfl rfl (i_no rfl rfl ?_)))))))))))))))))))))))))))
    refine kO rfl (a_pick_f rfl rfl rfl (kM rfl rfl (i_no rfl rfl (i_no rfl rfl (i_no rfl rfl (kO rfl (a_pick_f rfl rfl rfl (kM rfl rfl (i_nil (rQ (rS (kM rfl rfl (kO rfl (a_not rfl (i_nil (r_cond_t rfl (rS (kM rfl rfl (i_nil (r_ret (then_r (end1 rfl ⟨congrArg (Value.int .i64) ?_, rfl⟩))))))))))))))))))))))
    first | exact (if_pos (by omega)).symm | exact (if_neg (by omega)).symm
  ·refine kO rfl (a_pick_t rfl rfl rfl (kM rfl rfl (i_no rfl rfl (i_no rfl rfl (i_no rfl rfl (kO rfl (a_pick_f rfl rfl rfl (kM rfl rfl (i_no rfl rfl (i_no rfl rfl (i_no rfl rfl (i_no rfl rfl (i_no rfl rfl (kO rfl (a_pick_f rfl rfl rfl (kM rfl rfl (i_no rfl rfl (i_no rfl rfl (i_no rfl rfl (kO rfl (a_pick_f rfl rfl rfl (kM rfl rfl (i_no rfl rfl (i_no rfl rfl (i_no rfl rfl (kO rfl (a_pick_f rfl rfl rfl (kM rfl rfl ?_))))))))))))))))))))))))))))
   refine i_no rfl rfl (i_no rfl rfl (i_no rfl rfl (i_no rfl rfl (i_no rfl rfl (kO rfl (a_pick_f rfl rfl rfl (kM rfl rfl (i_no rfl rfl (i_no rfl rfl (i_no rfl rfl (kO rfl (a_pick_f rfl rfl rfl (kM rfl rfl (i_nil (rQ (rS (kM rfl rfl (kO rfl (a_not rfl (i_nil (r_cond_t rfl (rS (kM rfl rfl (i_nil (r_ret (then_r ?_))))))))))))))))))))))))))
   refine end1 rfl ⟨congrArg (Value.int .i64) ?_, rfl⟩
   first | exact (if_pos (by omega)).symm | exact (if_neg (by omega)).symm
 ·refine kM rfl rfl (i_no rfl rfl (i_no rfl rfl (i_no rfl rfl (kO rfl (a_pick_f rfl rfl rfl (kM rfl rfl (i_no rfl rfl (i_no rfl rfl (i_no rfl rfl (kO rfl (a_pick_f rfl rfl rfl (kM rfl rfl (i_no rfl rfl (i_no rfl rfl (i_no rfl rfl (i_no rfl rfl (i_no rfl rfl (kO rfl (a_pick_f rfl rfl rfl (kM rfl rfl (i_no rfl rfl (i_no rfl rfl (i_no rfl rfl (kO rfl (a_pick_f rfl rfl rfl (kM rfl rfl (i_no rfl rfl ?_)))))))))))))))))))))))))))
  refine i_no rfl rfl (i_no rfl rfl (kO rfl (a_pick_f rfl rfl rfl (kM rfl rfl (i_no rfl rfl (i_no rfl rfl (i_no rfl rfl (i_no rfl rfl (i_no rfl rfl (kO rfl (a_pick_f rfl rfl rfl (kM rfl rfl (i_no rfl rfl (i_no rfl rfl (i_no rfl rfl (kO rfl (a_pick_f rfl rfl rfl (kM rfl rfl (i_nil (rQ (rS (kM rfl rfl (kO rfl (a_not rfl (i_nil (r_cond_t rfl (rS ?_)))))))))))))))))))))))))))
  refine kM rfl rfl (i_nil (r_ret (then_r (end1 rfl ⟨congrArg (Value.int .i64) ?_, rfl⟩))))
  first | exact (if_pos (by omega)).symm | exact (if_neg (by omega)).symm

theorem ValidCompare_s (n : Nat) (z0 z1 z2 z3 z4 z5 : Int) (s : St) (hs : Wf s) : Spec Tryz.prog (tabK tabw) X (n + 100) 50 [.agg ⟨[.int .i64 z0, .int .i64 z1, .int .i64 z2, .int .i64 z3, .int .i64 z4, .int .i64 z5]⟩] s (fun v A => v = .bool (decide ((1 ≤ z0 ∧ z0 ≤ 99999) ∧ (1 ≤ z1 ∧ z1 ≤ 99) ∧ (0 ≤ z2 ∧ z2 ≤ z3 ∧ z3 ≤ 100000) ∧ (-1000 ≤ z4 ∧ z4 ≤ z5 ∧ z5 ≤ 1000))) ∧ A = []) := by
 refine enter bw50_at rfl hs ?_
 unfold bw50
 refine rS (kO rfl (a_box rfl rfl rfl (fun b1 => (kM rfl rfl (i_nil (rS (kO rfl (a_fa rfl (kO rfl (a_ld rfl .here rfl (kO rfl (a_callB rfl rfl (fun s1 h1 => In_s _ _ _ _ s1 h1.wf) (fun h2 => ?_) (fun h2 => ?_)))))))))))))
 ·refine kM rfl rfl (kG rfl rfl (a_fa rfl (kG rfl rfl (a_ld rfl .here rfl (kG rfl rfl (a_callB rfl rfl (fun s1 h1 => In_s _ _ _ _ s1 h1.wf) (fun h3 => ?_) (fun h3 => ?_)))))))
  ·refine kO rfl (a_pick_t rfl rfl rfl (kM rfl rfl (kG rfl rfl (a_fa rfl (kG rfl rfl (a_ld rfl .here rfl (kG rfl rfl (a_geq rfl rfl (fun h4 => ?_) (fun h4 => ?_)))))))))
   ·refine kO rfl (a_pick_t rfl rfl rfl (kM rfl rfl (kG rfl rfl (a_fa rfl (kG rfl rfl (a_ld rfl .here rfl (kG rfl rfl (a_fa rfl (kG rfl rfl (a_ld rfl .here rfl (kG rfl rfl (a_leq rfl rfl (fun h5 => ?_) (fun h5 => ?_)))))))))))))
    ·refine kO rfl (a_pick_t rfl rfl rfl (kM rfl rfl (kG rfl rfl (a_fa rfl (kG rfl rfl (a_ld rfl .here rfl (kG rfl rfl (a_leq rfl rfl (fun h6 => ?_) (fun h6 => ?_)))))))))
     ·refine kO rfl (a_pick_t rfl rfl rfl (kM rfl rfl (kG rfl rfl (a_fa rfl (kG rfl rfl (a_ld rfl .here rfl (kG rfl rfl (a_geq rfl rfl (fun h7 => ?_) (fun h7 => ?_)))))))))
      ·refine kO rfl (a_pick_t rfl rfl rfl (kM rfl rfl (kG rfl rfl (a_fa rfl (kG rfl rfl (a_ld rfl .here rfl (kG rfl rfl (a_fa rfl (kG rfl rfl (a_ld rfl .here rfl (kG rfl rfl (a_leq rfl rfl (fun h8 => ?_) (fun h8 => ?_)))))))))))))
       ·refine kO rfl (a_pick_t rfl rfl rfl (kM rfl rfl (kG rfl rfl (a_fa rfl (kG rfl rfl (a_ld rfl .here rfl (kG rfl rfl (a_leq rfl rfl (fun h9 => ?_) (fun h9 => ?_)))))))))
        ·refine kO rfl (a_pick_t rfl rfl rfl (kM rfl rfl (i_nil (r_ret (end1 rfl ⟨congrArg Value.bool ?_, rfl⟩)))))
         first | exact (decide_eq_true (by omega)).symm | exact (decide_eq_false (by omega)).symm
        ·refine kO rfl (a_pick_t rfl rfl rfl (kM rfl rfl (i_nil (r_ret (end1 rfl ⟨congrArg Value.bool ?_, rfl⟩)))))
         first | exact (decide_eq_true (by omega)).symm | exact (decide_eq_false (by omega)).symm
       ·refine kO rfl (a_pick_t rfl rfl rfl (kM rfl rfl (i_no rfl rfl (i_no rfl rfl (i_no rfl rfl (kO rfl (a_pick_f rfl rfl rfl (kM rfl rfl (i_nil (r_ret (end1 rfl ⟨congrArg Value.bool ?_, rfl⟩)))))))))))
        first | exact (decide_eq_true (by omega)).symm | exact (decide_eq_false (by omega)).symm
      ·refine kO rfl (a_pick_t rfl rfl rfl (kM rfl rfl (i_no rfl rfl (i_no rfl rfl (i_no rfl rfl (i_no rfl rfl (i_no rfl rfl (kO rfl (a_pick_f rfl rfl rfl (kM rfl rfl (i_no rfl rfl (i_no rfl rfl (i_no rfl rfl (kO rfl (a_pick_f rfl rfl rfl (kM rfl rfl (i_nil (r_ret (end1 rfl ⟨congrArg Value.bool ?_, rfl⟩)))))))))))))))))))
       first | exact (decide_eq_true (by omega)).symm | exact (decide_eq_false (by omega)).symm
     ·refine kO rfl (a_pick_t rfl rfl rfl (kM rfl rfl (i_no rfl rfl (i_no rfl rfl (i_no rfl rfl (kO rfl (a_pick_f rfl rfl rfl (kM rfl rfl (i_no rfl rfl (i_no rfl rfl (i_no rfl rfl (i_no rfl rfl (i_no rfl rfl (kO rfl (a_pick_f rfl rfl rfl (kM rfl rfl (i_no rfl rfl (i_no rfl rfl (i_no rfl rfl (kO rfl (a_pick_f rfl rfl rfl (kM rfl rfl (i_nil (r_ret (end1 rfl ⟨congrArg Value.bool ?_, rfl⟩)))))))))))))))))))))))))
      first | exact (decide_eq_true (by omega)).symm | exact (decide_eq_false (by omega)).symm
    ·refine kO rfl (a_pick_t rfl rfl rfl (kM rfl rfl (i_no rfl rfl (i_no rfl rfl (i_no rfl rfl (kO rfl (a_pick_f rfl rfl rfl (kM rfl rfl (i_no rfl rfl (i_no rfl rfl (i_no rfl rfl (kO rfl (a_pick_f rfl rfl rfl (kM rfl rfl (i_no rfl rfl (i_no rfl rfl (i_no rfl rfl (i_no rfl rfl (i_no rfl rfl (kO rfl (a_pick_f rfl rfl rfl (kM rfl rfl (i_no rfl rfl (i_no rfl rfl (i_no rfl rfl (kO rfl (a_pick_f rfl rfl rfl (kM rfl rfl ?_))))))))))))))))))))))))))))
     refine i_nil (r_ret (end1 rfl ⟨congrArg Value.bool ?_, rfl⟩))
     first | exact (decide_eq_true (by omega)).symm | exact (decide_eq_false (by omega)).symm
   ·refine kO rfl (a_pick_t rfl rfl rfl (kM rfl rfl (i_no rfl rfl (i_no rfl rfl (i_no rfl rfl (i_no rfl rfl (i_no rfl rfl (kO rfl (a_pick_f rfl rfl rfl (kM rfl rfl (i_no rfl rfl (i_no rfl rfl (i_no rfl rfl (kO rfl (a_pick_f rfl rfl rfl (kM rfl rfl (i_no rfl rfl (i_no rfl rfl (i_no rfl rfl (kO rfl (a_pick_f rfl rfl rfl (kM rfl rfl (i_no rfl rfl (i_no rfl rfl (i_no rfl rfl (i_no rfl rfl (i_no rfl rfl ?_)))))))))))))))))))))))))))
    refine kO rfl (a_pick_f rfl rfl rfl (kM rfl rfl (i_no rfl rfl (i_no rfl rfl (i_no rfl rfl (kO rfl (a_pick_f rfl rfl rfl (kM rfl rfl (i_nil (r_ret (end1 rfl ⟨congrArg Value.bool ?_, rfl⟩)))))))))))
    first | exact (decide_eq_true (by omega)).symm | exact (decide_eq_false (by omega)).symm
  ·refine kO rfl (a_pick_t rfl rfl rfl (kM rfl rfl (i_no rfl rfl (i_no rfl rfl (i_no rfl rfl (kO rfl (a_pick_f rfl rfl rfl (kM rfl rfl (i_no rfl rfl (i_no rfl rfl (i_no rfl rfl (i_no rfl rfl (i_no rfl rfl (kO rfl (a_pick_f rfl rfl rfl (kM rfl rfl (i_no rfl rfl (i_no rfl rfl (i_no rfl rfl (kO rfl (a_pick_f rfl rfl rfl (kM rfl rfl (i_no rfl rfl (i_no rfl rfl (i_no rfl rfl (kO rfl (a_pick_f rfl rfl rfl (kM rfl rfl ?_))))))))))))))))))))))))))))
   refine i_no rfl rfl (i_no rfl rfl (i_no rfl rfl (i_no rfl rfl (i_no rfl rfl (kO rfl (a_pick_f rfl rfl rfl (kM rfl rfl (i_no rfl rfl (i_no rfl rfl (i_no rfl rfl (kO rfl (a_pick_f rfl rfl rfl (kM rfl rfl (i_nil (r_ret (end1 rfl ⟨congrArg Value.bool ?_, rfl⟩))))))))))))))))
   first | exact (decide_eq_true (by omega)).symm | exact (decide_eq_false (by omega)).symm
 ·refine kM rfl rfl (i_no rfl rfl (i_no rfl rfl (i_no rfl rfl (kO rfl (a_pick_f rfl rfl rfl (kM rfl rfl (i_no rfl rfl (i_no rfl rfl (i_no rfl rfl (kO rfl (a_pick_f rfl rfl rfl (kM rfl rfl (i_no rfl rfl (i_no rfl rfl (i_no rfl rfl (i_no rfl rfl (i_no rfl rfl (kO rfl (a_pick_f rfl rfl rfl (kM rfl rfl (i_no rfl rfl (i_no rfl rfl (i_no rfl rfl (kO rfl (a_pick_f rfl rfl rfl (kM rfl rfl (i_no rfl rfl ?_)))))))))))))))))))))))))))
  refine i_no rfl rfl (i_no rfl rfl (kO rfl (a_pick_f rfl rfl rfl (kM rfl rfl (i_no rfl rfl (i_no rfl rfl (i_no rfl rfl (i_no rfl rfl (i_no rfl rfl (kO rfl (a_pick_f rfl rfl rfl (kM rfl rfl (i_no rfl rfl (i_no rfl rfl (i_no rfl rfl (kO rfl (a_pick_f rfl rfl rfl (kM rfl rfl (i_nil (r_ret (end1 rfl ⟨congrArg Value.bool ?_, rfl⟩)))))))))))))))))))))
  first | exact (decide_eq_true (by omega)).symm | exact (decide_eq_false (by omega)).symm

theorem checkParts_s (n : Nat) (d r al up : Int) (a1 a2 : Option Addr) (c1 c2 : Nat) (l1 l2 : List Int) (a3 a4 : Option Addr) (c3 c4 : Nat) (rs cs : List (List Int)) (s : St) (hs : Wf s) (hn : 2251799813685248 ≤ n) (hl1 : IntsE s a1 l1) (hl2 : IntsE s a2 l2) (hr : RowsE s 7 a3 rs) (hc : RowsE s 6 a4 cs) : Spec Tryz.prog (tabK tabw) X (n + 1900) 74 [.agg ⟨[.int .i64 d, .int .i64 r, .slice a1 l1.length c1, .slice a2 l2.length c2, .int .i64 al, .int .i64 up, .slice a3 rs.length c3, .slice a4 cs.length c4]⟩] s (fun v A => v = .int .i64 (prt ((1 ≤ d ∧ d ≤ 99999) ∧ (1 ≤ r ∧ r ≤ 99999) ∧ (0 ≤ al ∧ al ≤ 100000) ∧ (0 ≤ up ∧ up ≤ 100000) ∧ planB l1 l2 = true) l1 l2 rs cs) ∧ A = []) := by
 refine enter bw74_at rfl hs ?_
 unfold bw74
 have hlen1 := hl1.len
 have hlen2 := hl2.len
 have hlen3 := hr.len
 have hlen4 := hc.len
 refine rS (kO rfl (a_box rfl rfl rfl (fun b1 => (kM rfl rfl (i_nil (rQ (rS (kO rfl (a_fa rfl (kO rfl (a_lda rfl (by decide) .here rfl (kO rfl (a_callE rfl rfl (fun s1 h1 => CheckSpace_s _ _ _ _ _ _ _ _ _ _ _ s1 h1.wf (by omega) (hl1.ext hs h1.2.1) (hl2.ext hs h1.2.1)) (fun h2 => ?_) (fun h2 => ?_))))))))))))))
 ·have hsp := h2
  refine kM rfl rfl (i_nil (rS (kM rfl rfl (kO rfl (a_neq rfl rfl (fun h => absurd h (by decide)) (fun _ => (i_nil (r_cond_f rfl (r_skip (then_n (rQ (rS (kO rfl (a_fa rfl (kO rfl (a_ld rfl .here rfl (kO rfl (a_lenx rfl (by first | exact hr.spot | exact hc.spot) (kO rfl (a_gtr rfl rfl (fun h4 => ?_) (fun h4 => ?_)))))))))))))))))))))
  ·refine kM rfl rfl (i_no rfl rfl (i_no rfl rfl (i_no rfl rfl (i_no rfl rfl (kO rfl (a_pick_t rfl rfl rfl (i_nil (r_cond_t rfl (rS (kM rfl rfl (i_nil (r_ret (then_r (end1 rfl ⟨congrArg (Value.int .i64) ?_, rfl⟩))))))))))))))
   unfold prt
   first
    | (rw [if_neg (by assumption)]; done)
    | (rw [if_pos hsp, if_pos (by omega)]; done)
    | (rw [if_pos hsp, if_neg (by omega), rdB_bad hx hi (by assumption)]; rfl)
    | (rw [if_pos hsp, if_neg (by omega), rdB_bad hx hi (by omega)]; rfl)
    | (rw [if_pos hsp, if_neg (by omega), hrd, cpB_bad hz hj (by assumption)]; rfl)
    | (rw [if_pos hsp, if_neg (by omega), hrd, cpB_bad hz hj (by omega)]; rfl)
    | (rw [if_pos hsp, if_neg (by omega), hrd, cpB_end hj (by omega)]; rfl)
  ·refine kM rfl rfl (kG rfl rfl (a_fa rfl (kG rfl rfl (a_ld rfl .here rfl (kG rfl rfl (a_lenx rfl (by first | exact hr.spot | exact hc.spot) (kG rfl rfl (a_gtr rfl rfl (fun h5 => ?_) (fun h5 => ?_)))))))))
   ·refine kO rfl (a_pick_f rfl rfl rfl (i_nil (r_cond_t rfl (rS (kM rfl rfl (i_nil (r_ret (then_r (end1 rfl ⟨congrArg (Value.int .i64) ?_, rfl⟩)))))))))
    unfold prt
    first
     | (rw [if_neg (by assumption)]; done)
     | (rw [if_pos hsp, if_pos (by omega)]; done)
     | (rw [if_pos hsp, if_neg (by omega), rdB_bad hx hi (by assumption)]; rfl)
     | (rw [if_pos hsp, if_neg (by omega), rdB_bad hx hi (by omega)]; rfl)
     | (rw [if_pos hsp, if_neg (by omega), hrd, cpB_bad hz hj (by assumption)]; rfl)
     | (rw [if_pos hsp, if_neg (by omega), hrd, cpB_bad hz hj (by omega)]; rfl)
     | (rw [if_pos hsp, if_neg (by omega), hrd, cpB_end hj (by omega)]; rfl)
   ·refine kO rfl (a_pick_f rfl rfl rfl (i_nil (r_cond_f rfl (r_skip (then_n (rQ (rS (kO rfl (a_fa rfl (kO rfl (a_ld rfl .here rfl (kO rfl (a_lenx rfl (by first | exact hr.spot | exact hc.spot) (kM rfl rfl (i_nil (r_block (r_loop (fun j e A => ∃ (k : Nat), e = [(1, .pointer (some ⟨b1, 0, none⟩)), (27, .slice a3 rs.length c3), (28, .int .i64 (rs.length : Int)), (29, .int .i64 (k : Int))] ∧ A = (.row b1 37 false ([.int .i64 d, .int .i64 r, .slice a1 l1.length c1, .slice a2 l2.length c2, .int .i64 al, .int .i64 up, .slice a3 rs.length c3, .slice a4 cs.length c4]) :: []) ∧ j = rs.length - k ∧ k ≤ rs.length ∧ rdB (l1.length : Int) (l2.length : Int) rs = rdB (l1.length : Int) (l2.length : Int) (rs.drop k)) 400 844424930131968 281474976710656 ?_ (j := _) (env2 := _) (A2 := _) ?_ ?_ ?_ ?_ ⟨0, rfl, rfl, rfl, Nat.zero_le _, rfl⟩)))))))))))))))))
    rotate_left
    ·omega
    ·omega
    ·exact (lc 1 rfl (lc 27 rfl (lc 28 rfl (lc 29 rfl Less.nil))))
    ·exact (.cons_cons _ .slnil)
    rintro n hn j _ _ ⟨k, rfl, rfl, rfl, hk, hi⟩
    refine rS (kO rfl (a_lss rfl rfl (fun h6 => ?_) (fun h6 => ?_)))
    ·obtain ⟨q7, o7, x0, x1, x2, x3, x4, x5, x6, ahr, hx, hat, i0, i1, i2, i3, i4, i5, i6⟩ := hr.row7 (k := k) (by omega)
     have hat2 := hat
     obtain ⟨d0, d1, d2, d3, d4, d5, d6, _⟩ := hat2
     have := i0.lo; have := i0.hi
     have := i1.lo; have := i1.hi
     have := i2.lo; have := i2.hi
     have := i3.lo; have := i3.hi
     have := i4.lo; have := i4.hi
     have := i5.lo; have := i5.hi
     have := i6.lo; have := i6.hi
     refine i_nil (rQ (r_cond_t rfl (r_skip (then_n (rQ (r_block (rS (kO rfl (a_iaA ahr rfl rfl rfl (by first | decide | omega) (kO rfl (a_ldar rfl (by decide) (by assumption) rfl (kO rfl (a_new rfl rfl (fun b7 => (kZ rfl (a_sta rfl rfl .here rfl rfl rfl rfl (i_nil (rS (kO rfl (a_fa rfl (kO rfl (a_lda rfl (by decide) (.next .here) rfl (kO rfl (a_lda rfl (by decide) .here rfl (kO rfl (a_callE rfl rfl (fun s1 h1 => checkReading_s _ _ _ _ _ _ _ _ _ _ _ _ _ _ _ _ _ _ s1 h1.wf (by omega) (hl1.ext hs h1.2.1) (hl2.ext hs h1.2.1)) (fun h8 => ?_) (fun h8 => ?_)))))))))))))))))))))))))))
     ·refine kM rfl rfl (i_nil (rS (kM rfl rfl (kO rfl (a_neq rfl rfl (fun h => absurd h (by decide)) (fun _ => (i_nil (r_cond_f rfl (r_skip (block_n (then_n (rI (kO rfl (a_add rfl rfl (by omega) (kM rfl rfl (i_nil (then_n ?_)))))))))))))))))
      exact ⟨rfl, _, _, _, (show rs.length - (k + 1) < rs.length - k by omega), (lc 1 rfl (lc 27 rfl (lc 28 rfl (lc 29 rfl Less.nil)))), (.cons _ (.cons_cons _ .slnil)), ⟨k + 1, rfl, rfl, rfl, by omega, rdB_good hx hi (by assumption)⟩⟩
     ·refine kM rfl rfl (i_nil (rS (kM rfl rfl (kO rfl (a_neq rfl rfl (fun _ => (i_nil (r_cond_t rfl (rS (kM rfl rfl (kM rfl rfl (i_nil (r_ret (block_r (then_r (then_r (block_r (then_r (end1 rfl ⟨congrArg (Value.int .i64) ?_, rfl⟩)))))))))))))) (fun h => absurd h (by decide)))))))
      unfold prt
      first
       | (rw [if_neg (by assumption)]; done)
       | (rw [if_pos hsp, if_pos (by omega)]; done)
       | (rw [if_pos hsp, if_neg (by omega), rdB_bad hx hi (by assumption)]; rfl)
       | (rw [if_pos hsp, if_neg (by omega), rdB_bad hx hi (by omega)]; rfl)
       | (rw [if_pos hsp, if_neg (by omega), hrd, cpB_bad hz hj (by assumption)]; rfl)
       | (rw [if_pos hsp, if_neg (by omega), hrd, cpB_bad hz hj (by omega)]; rfl)
       | (rw [if_pos hsp, if_neg (by omega), hrd, cpB_end hj (by omega)]; rfl)
    ·have hrd := rdB_end hi (by omega)
     clear hi hk hn
     refine i_nil (rQ (r_cond_f rfl (r_exit (then_e (then_e (block_hit (then_n (rQ (rS (kO rfl (a_fa rfl (kO rfl (a_ld rfl .here rfl (kO rfl (a_lenx rfl (by first | exact hr.spot | exact hc.spot) (kM rfl rfl (i_nil (r_block (r_loop (fun j e A => ∃ (k : Nat), e = [(42, .slice a4 cs.length c4), (43, .int .i64 (cs.length : Int)), (44, .int .i64 (k : Int))] ∧ A = [] ∧ j = cs.length - k ∧ k ≤ cs.length ∧ cpB cs = cpB (cs.drop k)) 200 0 281474976710656 ?_ (j := _) (env2 := _) (A2 := _) ?_ ?_ ?_ ?_ ⟨0, rfl, rfl, rfl, Nat.zero_le _, rfl⟩)))))))))))))))))))
     rotate_left
     ·omega
     ·omega
     ·exact (lc 42 rfl (lc 43 rfl (lc 44 rfl Less.nil)))
     ·exact (.cons _ .slnil)
     rintro n hn j _ _ ⟨k, rfl, rfl, rfl, hk, hj⟩
     refine rS (kO rfl (a_lss rfl rfl (fun h11 => ?_) (fun h11 => ?_)))
     ·obtain ⟨q6, o6, z0, z1, z2, z3, z4, z5, ahc, hz, hat, j0, j1, j2, j3, j4, j5⟩ := hc.row6 (k := k) (by omega)
      have hat2 := hat
      obtain ⟨e0, e1, e2, e3, e4, e5, _⟩ := hat2
      have := j0.lo; have := j0.hi
      have := j1.lo; have := j1.hi
      have := j2.lo; have := j2.hi
      have := j3.lo; have := j3.hi
      have := j4.lo; have := j4.hi
      have := j5.lo; have := j5.hi
      refine i_nil (rQ (r_cond_t rfl (r_skip (then_n (rQ (r_block (rS (kO rfl (a_iaA ahc rfl rfl rfl (by first | decide | omega) (kO rfl (a_ldar rfl (by decide) (by assumption) rfl (kO rfl (a_new rfl rfl (fun b12 => (kZ rfl (a_sta rfl rfl .here rfl rfl rfl rfl (i_nil (rS (kO rfl (a_lda rfl (by decide) .here rfl (kO rfl (a_callE rfl rfl (fun s1 h1 => checkCompare_s _ _ _ _ _ _ _ s1 h1.wf) (fun h13 => ?_) (fun h13 => ?_)))))))))))))))))))))))
      ·refine kM rfl rfl (i_nil (rS (kM rfl rfl (kO rfl (a_neq rfl rfl (fun h => absurd h (by decide)) (fun _ => (i_nil (r_cond_f rfl (r_skip (block_n (then_n (rI (kO rfl (a_add rfl rfl (by omega) (kM rfl rfl (i_nil (then_n ?_)))))))))))))))))
       exact ⟨rfl, _, _, _, (show cs.length - (k + 1) < cs.length - k by omega), (lc 42 rfl (lc 43 rfl (lc 44 rfl Less.nil))), (.cons _ .slnil), ⟨k + 1, rfl, rfl, rfl, by omega, cpB_good hz hj (by assumption)⟩⟩
      ·refine kM rfl rfl (i_nil (rS (kM rfl rfl (kO rfl (a_neq rfl rfl (fun _ => (i_nil (r_cond_t rfl (rS (kM rfl rfl (kM rfl rfl (i_nil (r_ret (block_r (then_r (then_r (block_r (then_r (end1 rfl ⟨congrArg (Value.int .i64) ?_, rfl⟩)))))))))))))) (fun h => absurd h (by decide)))))))
       unfold prt
       first
        | (rw [if_neg (by assumption)]; done)
        | (rw [if_pos hsp, if_pos (by omega)]; done)
        | (rw [if_pos hsp, if_neg (by omega), rdB_bad hx hi (by assumption)]; rfl)
        | (rw [if_pos hsp, if_neg (by omega), rdB_bad hx hi (by omega)]; rfl)
        | (rw [if_pos hsp, if_neg (by omega), hrd, cpB_bad hz hj (by assumption)]; rfl)
        | (rw [if_pos hsp, if_neg (by omega), hrd, cpB_bad hz hj (by omega)]; rfl)
        | (rw [if_pos hsp, if_neg (by omega), hrd, cpB_end hj (by omega)]; rfl)
     ·refine i_nil (rQ (r_cond_f rfl (r_exit (then_e (then_e (block_hit (then_n (rS (kM rfl rfl (i_nil (r_ret (end1 rfl ⟨congrArg (Value.int .i64) ?_, rfl⟩))))))))))))
      unfold prt
      first
       | (rw [if_neg (by assumption)]; done)
       | (rw [if_pos hsp, if_pos (by omega)]; done)
       | (rw [if_pos hsp, if_neg (by omega), rdB_bad hx hi (by assumption)]; rfl)
       | (rw [if_pos hsp, if_neg (by omega), rdB_bad hx hi (by omega)]; rfl)
       | (rw [if_pos hsp, if_neg (by omega), hrd, cpB_bad hz hj (by assumption)]; rfl)
       | (rw [if_pos hsp, if_neg (by omega), hrd, cpB_bad hz hj (by omega)]; rfl)
       | (rw [if_pos hsp, if_neg (by omega), hrd, cpB_end hj (by omega)]; rfl)
 ·refine kM rfl rfl (i_nil (rS (kM rfl rfl (kO rfl (a_neq rfl rfl (fun _ => (i_nil (r_cond_t rfl (rS (kM rfl rfl (kM rfl rfl (i_nil (r_ret (then_r (end1 rfl ⟨congrArg (Value.int .i64) ?_, rfl⟩)))))))))) (fun h => absurd h (by decide)))))))
  unfold prt
  first
   | (rw [if_neg (by assumption)]; done)
   | (rw [if_pos hsp, if_pos (by omega)]; done)
   | (rw [if_pos hsp, if_neg (by omega), rdB_bad hx hi (by assumption)]; rfl)
   | (rw [if_pos hsp, if_neg (by omega), rdB_bad hx hi (by omega)]; rfl)
   | (rw [if_pos hsp, if_neg (by omega), hrd, cpB_bad hz hj (by assumption)]; rfl)
   | (rw [if_pos hsp, if_neg (by omega), hrd, cpB_bad hz hj (by omega)]; rfl)
   | (rw [if_pos hsp, if_neg (by omega), hrd, cpB_end hj (by omega)]; rfl)

end
end Ev
end Go.Proofs.YtfhfjcfhanmbiaaGreat
