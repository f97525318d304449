import Derived.Test.YtcpebhdbpkhhiaaGreatZc04
import Derived.ProofKit
import Derived.OpenShut
import Derived.Lib.SmallJoins
import Derived.Deep.Slices
import Derived.Deep.Strs
import Derived.Test.YtcpebhdbpkhhiaaGreatZc03
set_option linter.unusedVariables false
set_option linter.unusedSimpArgs false
/- A world as memory that is only read: whatever came in. No program here. -/
namespace Go.Proofs.YtcpebhdbpkhhiaaGreat.Ev
open Go Go.RowKit
noncomputable section

def isCells : Go.Obj → Bool
  | .cells _ _ _ => true
  | _ => false
def wmp (W : World) : Mp := fun i => match W.heap[i]? with
  | some o => if isCells o then some (i, 0) else none
  | none => none
open Classical in
def romOf (W : World) : Go.Obj → CObj
  | .cells cs _ _ => .rom (fun j => match cs[j]? with | some v => if VR (wmp W) v v ∧ oneCell v = true then some v else none | none => none)
  | _ => .dead
def wst (W : World) : St := ⟨BT.ofList (W.heap.toList.map (romOf W)), W.heap.size⟩
theorem ofList_full {α : Type} (l : List α) : Full (BT.ofList l) l.length := by
  have := full_adds (l := l) (t := (.leaf : BT α)) (n := 0) (by simp [Full])
  rw [Nat.zero_add] at this
  exact this
theorem ofList_at {α : Type} {l : List α} {i : Nat} {v : α} (h : l[i]? = some v) : (BT.ofList l).get i = some v := by
  have hi : i < l.length := (List.getElem?_eq_some_iff.1 h).1
  obtain ⟨u, hu⟩ := Option.isSome_iff_exists.1 ((ofList_full l).some i hi)
  have := ofList_get hu
  rw [h] at this; cases this; exact hu
theorem wst_wf (W : World) : Wf (wst W) := by
  have := ofList_full (W.heap.toList.map (romOf W))
  simpa [wst, Wf] using this
theorem wst_at {W : World} {b : Nat} {o : Go.Obj} (h : W.heap[b]? = some o) : (wst W).h.get b = some (romOf W o) := by
  refine ofList_at ?_
  rw [List.getElem?_map]
  have : W.heap.toList[b]? = some o := by simpa using h
  rw [this]; rfl
theorem wmp_inv {W : World} {i x y : Nat} (h : wmp W i = some (x, y)) : x = i ∧ ∃ cs e fr, W.heap[i]? = some (.cells cs e fr) := by
  unfold wmp at h
  split at h
  · rename_i o ho
    cases o with
    | cells cs e fr => simp [isCells] at h; exact ⟨h.1.symm, cs, e, fr, ho⟩
    | _ => simp [isCells] at h
  · cases h
theorem wmp_of {W : World} {i : Nat} {cs : Array Value} {e : Nat} {fr : Nat × Nat} (h : W.heap[i]? = some (.cells cs e fr)) : wmp W i = some (i, 0) := by
  unfold wmp; rw [h]; rfl
theorem emb_world (P : Program) (W : World) : Emb P (fun _ => none) W.heap.size (wmp W) (wst W) W := by
  refine ⟨fun i x y hi => ?_, fun i p hi => ?_, fun i x y o hi ho => ?_, fun i j x y y' hi hj hij hB => ?_, Nat.le_refl _, fun i o h => by cases h⟩
  · obtain ⟨rfl, cs, e, fr, h⟩ := wmp_inv hi
    exact ⟨.inr ⟨_, wst_at h⟩, (Array.getElem?_eq_some_iff.1 h).1⟩
  · obtain ⟨x, y⟩ := p
    obtain ⟨_, cs, e, fr, h⟩ := wmp_inv hi
    exact (Array.getElem?_eq_some_iff.1 h).1
  · obtain ⟨rfl, cs, e, fr, h⟩ := wmp_inv hi
    have h1 := wst_at h
    rw [ho] at h1
    have h2 : o = romOf W (.cells cs e fr) := Option.some.inj h1
    subst h2
    refine ⟨_, h, cs, e, fr, rfl, fun j v hj => ?_⟩
    dsimp only at hj
    split at hj
    · rename_i u hu
      split at hj
      · rename_i hc
        cases hj
        exact ⟨hc.2, _, hu, hc.1⟩
      · cases hj
    · cases hj
  · obtain ⟨rfl, cs, e, fr, h⟩ := wmp_inv hi
    have := (Array.getElem?_eq_some_iff.1 h).1
    omega
theorem at_world {W : World} {b o : Nat} {v : Value} (h : W.cell? ⟨b, o, none⟩ = some v) (hv : VR (wmp W) v v) (h1 : oneCell v = true) : At (wst W) b o v := by
  have hb : ∃ cs e fr, W.heap[b]? = some (.cells cs e fr) ∧ cs[o]? = some v := by
    unfold World.cell? at h
    dsimp only at h
    split at h
    · rename_i cs e fr hh; exact ⟨cs, e, fr, by first | exact hh | exact hh.1, h⟩
    · cases h
  obtain ⟨cs, e, fr, h2, h3⟩ := hb
  refine ⟨_, .inr (wst_at h2), ?_⟩
  simp [h3, hv, h1]
theorem Emb.below {P : Program} {K : Kp} {B : Nat} {m : Mp} {s : St} {w w' : World} (E : Emb P K B m s w) (h : Below w.heap.size w w') : Emb P K B m s w' := by
  have hs : w.heap.size ≤ w'.heap.size := h.size
  refine ⟨fun i x y hi => ⟨(E.low i x y hi).1, Nat.lt_of_lt_of_le (E.low i x y hi).2 hs⟩, E.old, fun i x y o hi ho => ?_, E.inj, Nat.le_trans E.base hs, E.kept⟩
  obtain ⟨o', h1, h2⟩ := E.obj i x y o hi ho
  exact ⟨o', (h.block x (E.low i x y hi).2).trans h1, h2⟩

/-- One call that is known: it needs nothing, leaves all as it was, and hands back true. -/
def knownX (g : Nat) : FuncId → List Value → St → (Value → St → Bool) → Bool := fun f vs s k => Nat.beq f g && (match vs with | [] => true | _ => false) && k (.bool true) s
theorem known_ok {P : Program} {g : Nat} {c : CF} (hc : compF P g = some c) (h : ∀ w, Calls P g #[] w fun e w' => e = .returned (.bool true) ∧ Below w.heap.size w w') : KnownOk P (knownX g) := by
  intro K B f vs s k hk m w us E hv
  unfold knownX at hk
  simp only [Bool.and_eq_true] at hk
  obtain ⟨⟨h1, h2⟩, h3⟩ := hk
  have hf : f = g := by simpa using h1
  subst hf
  cases vs with
  | cons v l => cases h2
  | nil =>
    have : us = [] := by simpa only [LR] using hv
    subst this
    obtain ⟨fn, cd, r, e1, e2, e3, e4, _⟩ := compF_inv hc
    refine ⟨fun w => ?_, CallsIn.mono ((callsIn_wide (n := 0)).2 (h w)) (fun e w' he => ?_)⟩
    · have h4' : ¬ fn.name = "runtime.NumGoroutine" := by simpa using e4
      simp [callFunc, e1, e2, h4']
    · obtain ⟨rfl, hb⟩ := he
      exact ⟨.bool true, s, m, h3, Mp.le_refl m, E.below hb, hb.mono E.base, by simp only [VR]⟩
theorem known_s {P : Program} {C : Nat → (CF → Bool) → Bool} {g : Nat} (n : Nat) (s : St) (hs : Wf s) : Spec P C (knownX g) n g [] s (fun v A => v = .bool true ∧ A = []) := by
  intro k hk
  have h1 : knownX g g [] s k = true := by
    unfold knownX
    rw [hk _ s ⟨[], Hld.start hs, rfl, rfl⟩, show Nat.beq g g = true from by rw [Nat.beq_eq]]; rfl
  cases n with
  | zero => exact h1
  | succ n =>
    show (knownX g g [] s k || _) = true
    rw [h1]; rfl
/-- What the evaluator says of a call whose memory is the world itself, the program does. -/
theorem law_open {P : Program} {t : BT (Option CF)} (h : Holds P t 0 1) {X : FuncId → List Value → St → (Value → St → Bool) → Bool} (hX : KnownOk P X) {n : Nat} {f : FuncId} {vs us : List Value} {W : World} (hs : Spec P (tabK t) X n f vs (wst W) (fun v A => v = .bool true ∧ A = [])) (hv : LR (wmp W) vs us) :
    Calls P f ⟨us⟩ W (fun e w' => e = .returned (.bool true) ∧ Below W.heap.size W w') := by
  refine Calls.mono (open_ok h hX (k := fun v _ => trueK v) (hs _ (fun v s' hq => by obtain ⟨A, _, rfl, _⟩ := hq; rfl)) (emb_world P W) hv) (fun e w' he => ?_)
  obtain ⟨u, rfl, h1, v, s', m', h2, _, _, h3⟩ := he
  obtain ⟨b, rfl, h4⟩ := onBool_inv (k := fun b => b) h2
  have hb : b = true := h4
  subst hb
  have : u = .bool true := by simpa only [VR] using h3
  exact ⟨by rw [this], h1⟩

/-! What the row lets in stands for itself. -/
theorem VR.int {m : Mp} (k : IntKind) (n : Int) : VR m (.int k n) (.int k n) := by simp only [VR]
theorem VR.slice0 {m : Mp} : VR m (.slice none 0 0) (.slice none 0 0) := by simp only [VR]; exact ⟨by decide, trivial⟩
theorem VR.slice1 {W : World} {b o n c : Nat} {cs : Array Value} {e : Nat} {fr : Nat × Nat} (h : W.heap[b]? = some (.cells cs e fr)) (hc : c < OPEN) : VR (wmp W) (.slice (some ⟨b, o, none⟩) n c) (.slice (some ⟨b, o, none⟩) n c) := by
  simp only [VR]
  refine ⟨trivial, ?_⟩
  rw [if_pos hc]
  exact ⟨b, 0, wmp_of h, rfl⟩
theorem VR.agg {m : Mp} {l l' : List Value} (h : LR m l l') : VR m (.agg ⟨l⟩) (.agg ⟨l'⟩) := by
  simp only [VR, AR]
  exact ⟨_, rfl, l', rfl, h⟩
theorem LR.nil {m : Mp} : LR m [] [] := by simp only [LR]
theorem LR.cons {m : Mp} {v v' : Value} {l l' : List Value} (h : VR m v v') (hl : LR m l l') : LR m (v :: l) (v' :: l') := by
  simp only [LR]
  exact ⟨v', l', rfl, h, hl⟩
/-- A slice that came in: nil, or in a row of cells, its cap an int. -/
def NiceS (W : World) (a : Option Addr) (n c : Nat) : Prop := (a = none ∧ n = 0 ∧ c = 0) ∨ ∃ b o cs e fr, a = some ⟨b, o, none⟩ ∧ W.heap[b]? = some (.cells cs e fr) ∧ c < OPEN
theorem NiceS.vr {W : World} {a : Option Addr} {n c : Nat} (h : NiceS W a n c) : VR (wmp W) (.slice a n c) (.slice a n c) := by
  rcases h with ⟨rfl, rfl, rfl⟩ | ⟨b, o, cs, e, fr, rfl, h, hc⟩
  · exact VR.slice0
  · exact VR.slice1 h hc
theorem NiceS.spot {W : World} {a : Option Addr} {n c : Nat} (h : NiceS W a n c) : ∀ b, a = some b → b.spot = none := by
  rcases h with ⟨rfl, rfl, rfl⟩ | ⟨b, o, cs, e, fr, rfl, h, hc⟩
  · intro b hb; cases hb
  · intro b hb; cases hb; rfl
theorem cell_niceS {P : Program} {W : World} {r : Reach} {b0 : Nat} {t e : TypeId} {v : Value} (ht : P.underlying t = some (.slice e)) (h : Cell.okWide P W r b0 t v) : ∃ a n c, v = .slice a n c ∧ NiceS W a n c := by
  simp only [Cell.okWide, ht] at h
  unfold Cell.ok at h
  rw [ht] at h
  split at h
  all_goals first
    | exact absurd h id
    | (rename_i h1; cases h1; done)
    | exact ⟨_, _, _, rfl, .inl ⟨rfl, rfl, rfl⟩⟩
    | skip
  all_goals first
    | (rename_i a len cap _; obtain ⟨h1, h2, _, hs, row, cells, h3, _⟩ := h
       refine ⟨_, _, _, rfl, .inr ?_⟩
       obtain ⟨b, o, spot⟩ := a
       have hs' : spot = none := hs
       subst hs'
       unfold World.shape? at h3
       split at h3
       · rename_i cs e' fr hh
         exact ⟨b, o, _, _, _, rfl, hh, by simp [IntKind.max, IntKind.signed, IntKind.bits] at h2; unfold OPEN; omega⟩
       · cases h3)
    | simp_all
end
end Go.Proofs.YtcpebhdbpkhhiaaGreat.Ev

/- What the row's arguments are, for the evaluator: rows of structs of numbers. No program here. -/
namespace Go.Proofs.YtcpebhdbpkhhiaaGreat.Ev
open Go Go.RowKit Go.ChangeShapes Go.WideShapes Go.ChangeAt Go.Joins
set_option linter.unusedVariables false
noncomputable section

def I64 (z : Int) : Prop := -9223372036854775808 ≤ z ∧ z < 9223372036854775808
theorem wf_I64 {n : Int} (h : (Lit.int .i64 n).wf = true) : I64 n := by
  simp [Lit.wf, IntKind.min, IntKind.max, IntKind.signed, IntKind.bits] at h
  unfold I64; omega
theorem lt_of_cell2 {w : World} {p : Addr} {v : Value} (h : w.cell? p = some v) : p.block < w.heap.size := by
  rcases Nat.lt_or_ge p.block w.heap.size with hlt | hge
  · exact hlt
  · unfold World.cell? at h; rw [Array.getElem?_eq_none hge] at h; simp at h
theorem weights_at2 {H : Type} {P : Program} : ∀ {ts : List TypeId} {ds : List (DataW H)} (_ : (DataW.weightsEach P ts ds).all (· ≤ reachBytes) = true) {j : Nat} {t : TypeId} {d : DataW H} (_ : ts[j]? = some t) (_ : ds[j]? = some d), ∀ x ∈ DataW.weights P t d, x ≤ reachBytes := by
  intro ts ds h j t d ht hd x hx
  have := List.all_eq_true.1 h x (DataW.weights_mem_each ht hd x hx)
  simpa using this
theorem add_flat2 (b o k : Nat) : (⟨b, o, none⟩ : Addr).add k = ⟨b, o + k, none⟩ := by
  unfold Addr.add
  by_cases h : k = 0
  · subst h; simp
  · simp [h]
/-- Cells of a type are w numbers. -/
def IntCells (H : Type) (P : Program) (enc : TypeId × Value → H) (W : World) (e w : Nat) : Prop :=
  ∀ {base fuel : Nat} {sp : Nat → Bool} {held : Bool} {cs : List Value} {x : DataW H × List MemPlace}, DataW.trod enc P W base sp held fuel e cs = some x → ∃ l : List Int, cs = l.map (.int .i64) ∧ l.length = w ∧ ∀ z ∈ l, I64 z
theorem intCells_int {H : Type} {P : Program} {enc : TypeId × Value → H} {W : World} {t : Nat} (ht : P.underlying t = some (.int .i64)) : IntCells H P enc W t 1 := by
  intro base fuel sp held cs x h
  obtain ⟨z, e, _, w⟩ := DataW.trod_int ht h
  exact ⟨[z], by simpa using e, rfl, by intro y hy; rw [List.mem_singleton.1 hy]; exact wf_I64 w⟩
/-- A struct whose fields are such, one behind the other. -/
theorem intCells_struct {H : Type} {P : Program} {enc : TypeId × Value → H} {W : World} {t : Nat} {fs : Array Field} {ws : List Nat} (ht : P.underlying t = some (.struct fs)) (hn : P.cellsOf t = ws.sum) (hf : ∀ i f, fs[i]? = some f → ∃ w, ws[i]? = some w ∧ P.cellsOf f.type = w ∧ f.offset = (ws.take i).sum ∧ IntCells H P enc W f.type w) (hl : fs.size = ws.length) : IntCells H P enc W t ws.sum := by
  intro base fuel sp held cs x h
  obtain ⟨xs, n, _, rfl, hcl, hlen, hfs⟩ := DataW.trod_struct ht h
  rw [hn] at hcl
  have key : ∀ (k : Nat), k ≤ ws.length → ∃ l : List Int, cs.take (ws.take k).sum = l.map (.int .i64) ∧ l.length = (ws.take k).sum ∧ ∀ z ∈ l, I64 z := by
    intro k
    induction k with
    | zero => intro _; exact ⟨[], by simp, rfl, by simp⟩
    | succ k ih =>
      intro hk
      obtain ⟨l, h1, h2, h3⟩ := ih (by omega)
      have hkf : k < fs.size := by omega
      obtain ⟨w, e1, e2, e3, e4⟩ := hf k fs[k] (Array.getElem?_eq_getElem hkf)
      have hx : ∃ y, xs[k]? = some y := ⟨xs[k]'(by rw [hlen]; simpa using hkf), List.getElem?_eq_getElem _⟩
      obtain ⟨y, hy⟩ := hx
      have h4 := hfs k fs[k] (by simp)
      have h4' : DataW.trod enc P W base sp held n fs[k].type ((cs.drop fs[k].offset).take (P.cellsOf fs[k].type)) = some y := by
        first
          | (obtain ⟨y', h5, h6⟩ := h4; rw [hy] at h5; cases h5; exact h6)
          | (rw [h4]; exact hy)
          | (rw [hy] at h4; exact h4)
      obtain ⟨l', g1, g2, g3⟩ := e4 h4'
      rw [e2, e3] at g1
      have hsum : (ws.take (k + 1)).sum = (ws.take k).sum + w := by
        rw [List.take_add_one, e1]; simp
      refine ⟨l ++ l', ?_, by rw [List.length_append, h2, g2, hsum], ?_⟩
      · rw [hsum, List.take_add, h1, g1, List.map_append]
      · intro z hz
        rcases List.mem_append.1 hz with hz | hz
        · exact h3 z hz
        · exact g3 z hz
  obtain ⟨l, h1, h2, h3⟩ := key ws.length (Nat.le_refl _)
  rw [List.take_length] at h1 h2
  rw [List.take_of_length_le (by omega)] at h1
  exact ⟨l, h1, h2, h3⟩
theorem ats_world {W : World} {b : Nat} : ∀ {r : List Int} {o : Nat}, (∀ j, j < r.length → W.cell? ⟨b, o + j, none⟩ = (r.map (Value.int .i64))[j]?) → Ats (wst W) b o (r.map (Value.int .i64))
  | [], _, _ => trivial
  | z :: r, o, h => ⟨at_world (by simpa using h 0 (by simp)) (VR.int _ _) rfl, ats_world (fun j hj => by have := h (j + 1) (by simp; omega); simpa [Nat.add_assoc, Nat.add_comm 1 j] using this)⟩
/-- A slice of structs of numbers that came in. -/
theorem rowsW {H : Type} {P : Program} {enc : TypeId × Value → H} {W : World} {t e w bytes : Nat} (ht : P.underlying t = some (.slice e)) (hc : P.cellsOf e = w) (hw : 0 < w) (hby : P.bytesOf e = bytes) (hb : 2 ≤ bytes) (hi : IntCells H P enc W e w) {a : Option Addr} {n cap fuel : Nat} (hv : NiceS W a n cap) {d : DataW H} {p : List MemPlace}
    (hf : DataW.trod enc P W 0 (fun _ => true) true fuel t [.slice a n cap] = some (d, p)) (hz : ∀ x ∈ DataW.weights P t d, x ≤ reachBytes) : ∃ rs : List (List Int), rs.length = n ∧ RowsE (wst W) w a rs ∧ rs.length * bytes ≤ 140737488355328 := by
  rcases Go.Deep.open_slice ht hf with ⟨hcs, _⟩ | ⟨a', l, c, m, fu, D, Pl, hcs, _, hl, hm, hmm, hd, hel⟩
  · simp at hcs
    obtain ⟨rfl, rfl, rfl⟩ := hcs
    exact ⟨[], rfl, ⟨hv.spot, fun h => absurd rfl h, fun _ _ h => (by cases h), by simp, by simp, by simp⟩, by simp⟩
  · simp at hcs
    obtain ⟨rfl, rfl, rfl⟩ := hcs
    have hml : n ≤ m := by rw [hmm]; split <;> omega
    have hch : ∀ i, ∃ y : List Int, i < n → (y.length = w ∧ ∀ z ∈ y, I64 z) ∧ ∀ r, r < w → W.cell? ((a'.add (i * w)).add r) = (y.map (Value.int .i64))[r]? := by
      intro i
      by_cases hin : i < n
      · obtain ⟨cs', h1, h2⟩ := hel i (by omega)
        obtain ⟨y, rfl, hy, hz⟩ := hi h2
        rw [hc] at h1
        obtain ⟨_, _, h3⟩ := World.cells?_some h1
        exact ⟨y, fun _ => ⟨⟨hy, hz⟩, h3⟩⟩
      · exact ⟨[], fun h => absurd h hin⟩
    obtain ⟨Y, hY⟩ : ∃ Y : Nat → List Int, ∀ i, i < n → ((Y i).length = w ∧ ∀ z ∈ Y i, I64 z) ∧ ∀ r, r < w → W.cell? ((a'.add (i * w)).add r) = ((Y i).map (Value.int .i64))[r]? := ⟨fun i => (hch i).choose, fun i => (hch i).choose_spec⟩
    have hsp := hv.spot a' rfl
    obtain ⟨b, off, spot⟩ := a'
    have hsp' : spot = none := hsp
    subst hsp'
    have hbytes : n * bytes ≤ 140737488355328 := by
      simp only [Prod.mk.injEq] at hd
      obtain ⟨rfl, _⟩ := hd
      have := hz _ (by simp only [DataW.weights, ht]; exact List.mem_cons_self)
      rw [hby] at this
      simp only [List.length_map, List.length_range, reachBytes] at this
      have e1 : n + (m - n) = m := by omega
      rw [e1] at this
      exact Nat.le_trans (Nat.mul_le_mul_right _ hml) (by omega)
    refine ⟨(List.range n).map Y, by simp, ⟨hv.spot, fun _ => ⟨b, off, rfl⟩, ?_, ?_, ?_, ?_⟩, by simpa using hbytes⟩
    · intro b' o' hbo i r hr
      cases hbo
      rw [List.getElem?_map] at hr
      obtain ⟨i', h1, rfl⟩ := Option.map_eq_some_iff.1 hr
      obtain ⟨h2, h3⟩ := List.getElem?_eq_some_iff.1 h1
      simp at h2 h3
      subst h3
      refine ats_world (fun j hj => ?_)
      have := (hY i h2).2 j (by rw [← (hY i h2).1.1]; exact hj)
      rw [add_flat2, add_flat2] at this
      exact this
    · intro r hr
      obtain ⟨i, hi', rfl⟩ := List.mem_map.1 hr
      exact (hY i (List.mem_range.1 hi')).1.1
    · intro r hr x hx
      obtain ⟨i, hi', rfl⟩ := List.mem_map.1 hr
      exact (hY i (List.mem_range.1 hi')).1.2 x hx
    · simp
      have : n * 2 ≤ n * bytes := Nat.mul_le_mul_left _ hb
      omega
end
end Go.Proofs.YtcpebhdbpkhhiaaGreat.Ev

/- Contracts: bound: what a system is. -/
namespace Go.Proofs.YtcpebhdbpkhhiaaGreat
open Go Go.RowKit
namespace Ev
theorem I64.lo {z : Int} (h : I64 z) : -9223372036854775808 ≤ z := h.1
theorem I64.hi {z : Int} (h : I64 z) : z < 9223372036854775808 := h.2
theorem RowsE.row4 {s : St} {a : Option Addr} {rs : List (List Int)} (h : RowsE s 4 a rs) {k : Nat} (hk : k < rs.length) : ∃ b o y0 y1 y2 y3, a = some ⟨b, o, none⟩ ∧ rs[k]? = some [y0, y1, y2, y3] ∧ Ats s b (o + k * 4) [.int .i64 y0, .int .i64 y1, .int .i64 y2, .int .i64 y3] ∧ I64 y0 ∧ I64 y1 ∧ I64 y2 ∧ I64 y3 := by
  obtain ⟨b, o, r, h1, h2, h3, h4, h5⟩ := h.row hk
  obtain ⟨y0, r1, rfl, g1⟩ := list_len_succ h3
  obtain ⟨y1, r2, rfl, g2⟩ := list_len_succ g1
  obtain ⟨y2, r3, rfl, g3⟩ := list_len_succ g2
  obtain ⟨y3, r4, rfl, g4⟩ := list_len_succ g3
  have : r4 = [] := List.eq_nil_of_length_eq_zero g4
  subst this
  exact ⟨b, o, y0, y1, y2, y3, h1, h2, h4, h5 y0 (by simp), h5 y1 (by simp), h5 y2 (by simp), h5 y3 (by simp)⟩
def lmB (m : Int) : List (List Int) → Bool
  | [] => true
  | [y0, y1, y2, y3] :: rs => decide ((0 ≤ m ∧ m ≤ 64) ∧ (0 ≤ y0 ∧ y0 ≤ m) ∧ (0 ≤ y1 ∧ y1 ≤ m) ∧ ¬ y0 = y1 ∧ (-20000 ≤ y2 ∧ y2 ≤ 20000) ∧ (1 ≤ y3 ∧ y3 ≤ 99999)) && lmB m rs
  | _ :: _ => false
theorem lmB_step (m : Int) {rs : List (List Int)} {k : Nat} {y0 y1 y2 y3 : Int} (h : rs[k]? = some [y0, y1, y2, y3]) (hi : lmB m rs = lmB m (rs.drop k)) : lmB m rs = (decide ((0 ≤ m ∧ m ≤ 64) ∧ (0 ≤ y0 ∧ y0 ≤ m) ∧ (0 ≤ y1 ∧ y1 ≤ m) ∧ ¬ y0 = y1 ∧ (-20000 ≤ y2 ∧ y2 ≤ 20000) ∧ (1 ≤ y3 ∧ y3 ≤ 99999)) && lmB m (rs.drop (k + 1))) := by
  obtain ⟨hk, he⟩ := List.getElem?_eq_some_iff.1 h
  rw [hi, List.drop_eq_getElem_cons hk, he]; rfl
theorem lmB_bad {m : Int} {rs : List (List Int)} {k : Nat} {y0 y1 y2 y3 : Int} (h : rs[k]? = some [y0, y1, y2, y3]) (hi : lmB m rs = lmB m (rs.drop k)) (hn : ¬ ((0 ≤ m ∧ m ≤ 64) ∧ (0 ≤ y0 ∧ y0 ≤ m) ∧ (0 ≤ y1 ∧ y1 ≤ m) ∧ ¬ y0 = y1 ∧ (-20000 ≤ y2 ∧ y2 ≤ 20000) ∧ (1 ≤ y3 ∧ y3 ≤ 99999))) : lmB m rs = false := by
  rw [lmB_step m h hi, decide_eq_false hn]; rfl
theorem lmB_good {m : Int} {rs : List (List Int)} {k : Nat} {y0 y1 y2 y3 : Int} (h : rs[k]? = some [y0, y1, y2, y3]) (hi : lmB m rs = lmB m (rs.drop k)) (hn : (0 ≤ m ∧ m ≤ 64) ∧ (0 ≤ y0 ∧ y0 ≤ m) ∧ (0 ≤ y1 ∧ y1 ≤ m) ∧ ¬ y0 = y1 ∧ (-20000 ≤ y2 ∧ y2 ≤ 20000) ∧ (1 ≤ y3 ∧ y3 ≤ 99999)) : lmB m rs = lmB m (rs.drop (k + 1)) := by
  rw [lmB_step m h hi, decide_eq_true hn]; rfl
theorem lmB_end {m : Int} {rs : List (List Int)} {k : Nat} (hi : lmB m rs = lmB m (rs.drop k)) (hk : rs.length ≤ k) : lmB m rs = true := by
  rw [hi, List.drop_eq_nil_of_le hk]; rfl
theorem lmB_at {m : Int} {y0 y1 y2 y3 : Int} : ∀ {rs : List (List Int)} {k : Nat}, lmB m rs = true → rs[k]? = some [y0, y1, y2, y3] → (0 ≤ m ∧ m ≤ 64) ∧ (0 ≤ y0 ∧ y0 ≤ m) ∧ (0 ≤ y1 ∧ y1 ≤ m) ∧ ¬ y0 = y1 ∧ (-20000 ≤ y2 ∧ y2 ≤ 20000) ∧ (1 ≤ y3 ∧ y3 ≤ 99999)
  | [], _, _, h => by simp at h
  | r :: rs, 0, h1, h => by
    simp only [List.getElem?_cons_zero, Option.some.injEq] at h
    subst h
    have h2 : (decide ((0 ≤ m ∧ m ≤ 64) ∧ (0 ≤ y0 ∧ y0 ≤ m) ∧ (0 ≤ y1 ∧ y1 ≤ m) ∧ ¬ y0 = y1 ∧ (-20000 ≤ y2 ∧ y2 ≤ 20000) ∧ (1 ≤ y3 ∧ y3 ≤ 99999)) && lmB m rs) = true := h1
    rw [Bool.and_eq_true] at h2
    exact of_decide_eq_true h2.1
  | r :: rs, k + 1, h1, h => by
    refine lmB_at (rs := rs) (k := k) ?_ (by simpa using h)
    unfold lmB at h1
    split at h1
    · rename_i h2; cases h2
    · rename_i h2; cases h2; rw [Bool.and_eq_true] at h1; exact h1.2
    · cases h1

/-- The error of a system. -/
def sysE (m : Int) (ls : List (List Int)) : Int := if 0 ≤ m ∧ m ≤ 64 then (if 400 < (ls.length : Int) then 2 else if lmB m ls = true then 0 else 20) else 21
theorem sysE_ok {m : Int} {ls : List (List Int)} (h : sysE m ls = 0) : 0 ≤ m ∧ m ≤ 64 ∧ (ls.length : Int) ≤ 400 ∧ lmB m ls = true := by
  unfold sysE at h
  split at h
  · split at h
    · cases h
    · split at h
      · exact ⟨by omega, by omega, by omega, by assumption⟩
      · cases h
  · cases h

section
variable {X : FuncId → List Value → St → (Value → St → Bool) → Bool}
theorem inside_s (n : Nat) (x lo hi : Int) (s : St) (hs : Wf s) : Spec Tryz.prog (tabK tabw) X (n + 20) 47 [.int .i64 x, .int .i64 lo, .int .i64 hi] s (fun v A => v = .bool (decide (lo ≤ x ∧ x ≤ hi)) ∧ A = []) := by
 refine enter bw47_at rfl hs ?_
 unfold bw47
 refine rS (kM rfl rfl (i_nil (rS (kM rfl rfl (kM rfl rfl (kO rfl (a_leq rfl rfl (fun h1 => ?_) (fun h1 => ?_))))))))
 ·refine kM rfl rfl (kG rfl rfl (a_mov rfl (kG rfl rfl (a_mov rfl (kG rfl rfl (a_leq rfl rfl (fun h2 => ?_) (fun h2 => ?_)))))))
  ·refine kO rfl (a_pick_t rfl rfl rfl (kM rfl rfl (i_nil (r_ret (end1 rfl ⟨congrArg Value.bool ?_, rfl⟩)))))
   first | exact (decide_eq_true (by omega)).symm | exact (decide_eq_false (by omega)).symm
  ·refine kO rfl (a_pick_t rfl rfl rfl (kM rfl rfl (i_nil (r_ret (end1 rfl ⟨congrArg Value.bool ?_, rfl⟩)))))
   first | exact (decide_eq_true (by omega)).symm | exact (decide_eq_false (by omega)).symm
 ·refine kM rfl rfl (i_no rfl rfl (i_no rfl rfl (i_no rfl rfl (kO rfl (a_pick_f rfl rfl rfl (kM rfl rfl (i_nil (r_ret (end1 rfl ⟨congrArg Value.bool ?_, rfl⟩)))))))))
  first | exact (decide_eq_true (by omega)).symm | exact (decide_eq_false (by omega)).symm

theorem rwithin_s (n : Nat) (x lo hi : Int) (s : St) (hs : Wf s) : Spec Tryz.prog (tabK tabw) X (n + 20) 31 [.int .i64 x, .int .i64 lo, .int .i64 hi] s (fun v A => v = .bool (decide (lo ≤ x ∧ x ≤ hi)) ∧ A = []) := by
 refine enter bw31_at rfl hs ?_
 unfold bw31
 refine rS (kM rfl rfl (i_nil (rS (kM rfl rfl (kM rfl rfl (kO rfl (a_leq rfl rfl (fun h1 => ?_) (fun h1 => ?_))))))))
 ·refine kM rfl rfl (kG rfl rfl (a_mov rfl (kG rfl rfl (a_mov rfl (kG rfl rfl (a_leq rfl rfl (fun h2 => ?_) (fun h2 => ?_)))))))
  ·refine kO rfl (a_pick_t rfl rfl rfl (kM rfl rfl (i_nil (r_ret (end1 rfl ⟨congrArg Value.bool ?_, rfl⟩)))))
   first | exact (decide_eq_true (by omega)).symm | exact (decide_eq_false (by omega)).symm
  ·refine kO rfl (a_pick_t rfl rfl rfl (kM rfl rfl (i_nil (r_ret (end1 rfl ⟨congrArg Value.bool ?_, rfl⟩)))))
   first | exact (decide_eq_true (by omega)).symm | exact (decide_eq_false (by omega)).symm
 ·refine kM rfl rfl (i_no rfl rfl (i_no rfl rfl (i_no rfl rfl (kO rfl (a_pick_f rfl rfl rfl (kM rfl rfl (i_nil (r_ret (end1 rfl ⟨congrArg Value.bool ?_, rfl⟩)))))))))
  first | exact (decide_eq_true (by omega)).symm | exact (decide_eq_false (by omega)).symm

theorem CheckLimit_s (n : Nat) (m y0 y1 y2 y3 : Int) (s : St) (hs : Wf s) : Spec Tryz.prog (tabK tabw) X (n + 100) 48 [.int .i64 m, .agg ⟨[.int .i64 y0, .int .i64 y1, .int .i64 y2, .int .i64 y3]⟩] s (fun v A => v = .int .i64 (if (0 ≤ m ∧ m ≤ 64) ∧ (0 ≤ y0 ∧ y0 ≤ m) ∧ (0 ≤ y1 ∧ y1 ≤ m) ∧ ¬ y0 = y1 ∧ (-20000 ≤ y2 ∧ y2 ≤ 20000) ∧ (1 ≤ y3 ∧ y3 ≤ 99999) then 0 else 20) ∧ A = []) := by
 refine enter bw48_at rfl hs ?_
 unfold bw48
 refine rS (kO rfl (a_box rfl rfl rfl (fun b1 => (kM rfl rfl (i_nil (rS (kM rfl rfl (kO rfl (a_callB rfl rfl (fun s1 h1 => inside_s _ _ _ _ s1 h1.wf) (fun h2 => ?_) (fun h2 => ?_))))))))))
 ·refine kM rfl rfl (kG rfl rfl (a_fa rfl (kG rfl rfl (a_ld rfl .here rfl (kG rfl rfl (a_mov rfl (kG rfl rfl (a_callB rfl rfl (fun s1 h1 => inside_s _ _ _ _ s1 h1.wf) (fun h3 => ?_) (fun h3 => ?_)))))))))
  ·refine kO rfl (a_pick_t rfl rfl rfl (kM rfl rfl (kG rfl rfl (a_fa rfl (kG rfl rfl (a_ld rfl .here rfl (kG rfl rfl (a_mov rfl (kG rfl rfl (a_callB rfl rfl (fun s1 h1 => inside_s _ _ _ _ s1 h1.wf) (fun h4 => ?_) (fun h4 => ?_)))))))))))
   ·refine kO rfl (a_pick_t rfl rfl rfl (kM rfl rfl (kG rfl rfl (a_fa rfl (kG rfl rfl (a_ld rfl .here rfl (kG rfl rfl (a_fa rfl (kG rfl rfl (a_ld rfl .here rfl (kG rfl rfl (a_neq rfl rfl (fun h5 => ?_) (fun h5 => ?_)))))))))))))
    ·refine kO rfl (a_pick_t rfl rfl rfl (kM rfl rfl (kG rfl rfl (a_fa rfl (kG rfl rfl (a_ld rfl .here rfl (kG rfl rfl (a_callB rfl rfl (fun s1 h1 => inside_s _ _ _ _ s1 h1.wf) (fun h6 => ?_) (fun h6 => ?_)))))))))
     ·refine kO rfl (a_pick_t rfl rfl rfl (kM rfl rfl (kG rfl rfl (a_fa rfl (kG rfl rfl (a_ld rfl .here rfl (kG rfl rfl (a_callB rfl rfl (fun s1 h1 => inside_s _ _ _ _ s1 h1.wf) (fun h7 => ?_) (fun h7 => ?_)))))))))
      ·refine kO rfl (a_pick_t rfl rfl rfl (kM rfl rfl (i_nil (rQ (rS (kM rfl rfl (kO rfl (a_not rfl (i_nil (r_cond_f rfl (r_skip (then_n (rS (kM rfl rfl (i_nil (r_ret (end1 rfl ⟨congrArg (Value.int .i64) ?_, rfl⟩)))))))))))))))))
       first | exact (if_pos (by omega)).symm | exact (if_neg (by omega)).symm
      ·refine kO rfl (a_pick_t rfl rfl rfl (kM rfl rfl (i_nil (rQ (rS (kM rfl rfl (kO rfl (a_not rfl (i_nil (r_cond_t rfl (rS (kM rfl rfl (i_nil (r_ret (then_r (end1 rfl ⟨congrArg (Value.int .i64) ?_, rfl⟩))))))))))))))))
       first | exact (if_pos (by omega)).symm | exact (if_neg (by omega)).symm
     ·refine kO rfl (a_pick_t rfl rfl rfl (kM rfl rfl (i_no rfl rfl (i_no rfl rfl (i_no rfl rfl (kO rfl (a_pick_f rfl rfl rfl (kM rfl rfl (i_nil (rQ (rS (kM rfl rfl (kO rfl (a_not rfl (i_nil (r_cond_t rfl (rS (kM rfl rfl (i_nil (r_ret (then_r (end1 rfl ⟨congrArg (Value.int .i64) ?_, rfl⟩))))))))))))))))))))))
      first | exact (if_pos (by omega)).symm | exact (if_neg (by omega)).symm
    ·refine kO rfl (a_pick_t rfl rfl rfl (kM rfl rfl (i_no rfl rfl (i_no rfl rfl (i_no rfl rfl (kO rfl (a_pick_f rfl rfl rfl (kM rfl rfl (i_no rfl rfl (i_no rfl rfl (i_no rfl rfl (kO rfl (a_pick_f rfl rfl rfl (kM rfl rfl (i_nil (rQ (rS (kM rfl rfl (kO rfl (a_not rfl (i_nil (r_cond_t rfl (rS (kM rfl rfl (i_nil (r_ret (then_r ?_)))))))))))))))))))))))))))
     refine end1 rfl ⟨congrArg (Value.int .i64) ?_, rfl⟩
     first | exact (if_pos (by omega)).symm | exact (if_neg (by omega)).symm
   ·refine kO rfl (a_pick_t rfl rfl rfl (kM rfl rfl (i_no rfl rfl (i_no rfl rfl (i_no rfl rfl (i_no rfl rfl (i_no rfl rfl (kO rfl (a_pick_f rfl rfl rfl (kM rfl rfl (i_no rfl rfl (i_no rfl rfl (i_no rfl rfl (kO rfl (a_pick_f rfl rfl rfl (kM rfl rfl (i_no rfl rfl (i_no rfl rfl (i_no rfl rfl (kO rfl (a_pick_f rfl rfl rfl (kM rfl rfl (i_nil (rQ (rS (kM rfl rfl (kO rfl (a_not rfl ?_))))))))))))))))))))))))))))
    refine i_nil (r_cond_t rfl (rS (kM rfl rfl (i_nil (r_ret (then_r (end1 rfl ⟨congrArg (Value.int .i64) ?_, rfl⟩)))))))
    first | exact (if_pos (by omega)).symm | exact (if_neg (by omega)).symm
  ·refine kO rfl (a_pick_t rfl rfl rfl (kM rfl rfl (i_no rfl rfl (i_no rfl rfl (i_no rfl rfl (i_no rfl rfl (kO rfl (a_pick_f rfl rfl rfl (kM rfl rfl (i_no rfl rfl (i_no rfl rfl (i_no rfl rfl (i_no rfl rfl (i_no rfl rfl (kO rfl (a_pick_f rfl rfl rfl (kM rfl rfl (i_no rfl rfl (i_no rfl rfl (i_no rfl rfl (kO rfl (a_pick_f rfl rfl rfl (kM rfl rfl (i_no rfl rfl (i_no rfl rfl (i_no rfl rfl (kO rfl (a_pick_f rfl rfl rfl ?_))))))))))))))))))))))))))))
   refine kM rfl rfl (i_nil (rQ (rS (kM rfl rfl (kO rfl (a_not rfl (i_nil (r_cond_t rfl (rS (kM rfl rfl (i_nil (r_ret (then_r (end1 rfl ⟨congrArg (Value.int .i64) ?_, rfl⟩))))))))))))))
   first | exact (if_pos (by omega)).symm | exact (if_neg (by omega)).symm
 ·refine kM rfl rfl (i_no rfl rfl (i_no rfl rfl (i_no rfl rfl (i_no rfl rfl (kO rfl (a_pick_f rfl rfl rfl (kM rfl rfl (i_no rfl rfl (i_no rfl rfl (i_no rfl rfl (i_no rfl rfl (kO rfl (a_pick_f rfl rfl rfl (kM rfl rfl (i_no rfl rfl (i_no rfl rfl (i_no rfl rfl (i_no rfl rfl (i_no rfl rfl (kO rfl (a_pick_f rfl rfl rfl (kM rfl rfl (i_no rfl rfl (i_no rfl rfl (i_no rfl rfl (kO rfl (a_pick_f rfl rfl rfl ?_)))))))))))))))))))))))))))
  refine kM rfl rfl (i_no rfl rfl (i_no rfl rfl (i_no rfl rfl (kO rfl (a_pick_f rfl rfl rfl (kM rfl rfl (i_nil (rQ (rS (kM rfl rfl (kO rfl (a_not rfl (i_nil (r_cond_t rfl (rS (kM rfl rfl (i_nil (r_ret (then_r (end1 rfl ⟨congrArg (Value.int .i64) ?_, rfl⟩))))))))))))))))))))
  first | exact (if_pos (by omega)).symm | exact (if_neg (by omega)).symm

theorem rCheckLimit_s (n : Nat) (m y0 y1 y2 y3 : Int) (s : St) (hs : Wf s) : Spec Tryz.prog (tabK tabw) X (n + 100) 42 [.int .i64 m, .agg ⟨[.int .i64 y0, .int .i64 y1, .int .i64 y2, .int .i64 y3]⟩] s (fun v A => v = .int .i64 (if (0 ≤ m ∧ m ≤ 64) ∧ (0 ≤ y0 ∧ y0 ≤ m) ∧ (0 ≤ y1 ∧ y1 ≤ m) ∧ ¬ y0 = y1 ∧ (-20000 ≤ y2 ∧ y2 ≤ 20000) ∧ (1 ≤ y3 ∧ y3 ≤ 99999) then 0 else 20) ∧ A = []) := by
 refine enter bw42_at rfl hs ?_
 unfold bw42
 refine rS (kO rfl (a_box rfl rfl rfl (fun b1 => (kM rfl rfl (i_nil (rQ (rS (kM rfl rfl (kO rfl (a_callB rfl rfl (fun s1 h1 => rwithin_s _ _ _ _ s1 h1.wf) (fun h2 => ?_) (fun h2 => ?_)))))))))))
 ·refine kO rfl (a_not rfl (kM rfl rfl (kG rfl rfl (a_fa rfl (kG rfl rfl (a_ld rfl .here rfl (kG rfl rfl (a_mov rfl (kG rfl rfl (a_callB rfl rfl (fun s1 h1 => rwithin_s _ _ _ _ s1 h1.wf) (fun h3 => ?_) (fun h3 => ?_)))))))))))
  ·refine kG rfl rfl (a_not rfl (kO rfl (a_pick_f rfl rfl rfl (kM rfl rfl (kG rfl rfl (a_fa rfl (kG rfl rfl (a_ld rfl .here rfl (kG rfl rfl (a_mov rfl (kG rfl rfl (a_callB rfl rfl (fun s1 h1 => rwithin_s _ _ _ _ s1 h1.wf) (fun h4 => ?_) (fun h4 => ?_)))))))))))))
   ·refine kG rfl rfl (a_not rfl (kO rfl (a_pick_f rfl rfl rfl (kM rfl rfl (kG rfl rfl (a_fa rfl (kG rfl rfl (a_ld rfl .here rfl (kG rfl rfl (a_fa rfl (kG rfl rfl (a_ld rfl .here rfl (kG rfl rfl (a_eql rfl rfl (fun h5 => ?_) (fun h5 => ?_)))))))))))))))
    ·refine kO rfl (a_pick_f rfl rfl rfl (kM rfl rfl (i_no rfl rfl (i_no rfl rfl (i_no rfl rfl (i_no rfl rfl (kO rfl (a_pick_t rfl rfl rfl (kM rfl rfl (i_no rfl rfl (i_no rfl rfl (i_no rfl rfl (i_no rfl rfl (kO rfl (a_pick_t rfl rfl rfl (i_nil (r_cond_t rfl (rS (kM rfl rfl (i_nil (r_ret (then_r (end1 rfl ⟨congrArg (Value.int .i64) ?_, rfl⟩)))))))))))))))))))))))
     first | exact (if_pos (by omega)).symm | exact (if_neg (by omega)).symm
    ·refine kO rfl (a_pick_f rfl rfl rfl (kM rfl rfl (kG rfl rfl (a_fa rfl (kG rfl rfl (a_ld rfl .here rfl (kG rfl rfl (a_callB rfl rfl (fun s1 h1 => rwithin_s _ _ _ _ s1 h1.wf) (fun h6 => ?_) (fun h6 => ?_)))))))))
     ·refine kG rfl rfl (a_not rfl (kO rfl (a_pick_f rfl rfl rfl (kM rfl rfl (kG rfl rfl (a_fa rfl (kG rfl rfl (a_ld rfl .here rfl (kG rfl rfl (a_callB rfl rfl (fun s1 h1 => rwithin_s _ _ _ _ s1 h1.wf) (fun h7 => ?_) (fun h7 => ?_)))))))))))
      ·refine kG rfl rfl (a_not rfl (kO rfl (a_pick_f rfl rfl rfl (i_nil (r_cond_f rfl (r_skip (then_n (rS (kM rfl rfl (i_nil (r_ret (end1 rfl ⟨congrArg (Value.int .i64) ?_, rfl⟩))))))))))))
       first | exact (if_pos (by omega)).symm | exact (if_neg (by omega)).symm
      ·refine kG rfl rfl (a_not rfl (kO rfl (a_pick_f rfl rfl rfl (i_nil (r_cond_t rfl (rS (kM rfl rfl (i_nil (r_ret (then_r (end1 rfl ⟨congrArg (Value.int .i64) ?_, rfl⟩)))))))))))
       first | exact (if_pos (by omega)).symm | exact (if_neg (by omega)).symm
     ·refine kG rfl rfl (a_not rfl (kO rfl (a_pick_f rfl rfl rfl (kM rfl rfl (i_no rfl rfl (i_no rfl rfl (i_no rfl rfl (i_no rfl rfl (kO rfl (a_pick_t rfl rfl rfl (i_nil (r_cond_t rfl (rS (kM rfl rfl (i_nil (r_ret (then_r (end1 rfl ⟨congrArg (Value.int .i64) ?_, rfl⟩))))))))))))))))))
      first | exact (if_pos (by omega)).symm | exact (if_neg (by omega)).symm
   ·refine kG rfl rfl (a_not rfl (kO rfl (a_pick_f rfl rfl rfl (kM rfl rfl (i_no rfl rfl (i_no rfl rfl (i_no rfl rfl (i_no rfl rfl (i_no rfl rfl (kO rfl (a_pick_t rfl rfl rfl (kM rfl rfl (i_no rfl rfl (i_no rfl rfl (i_no rfl rfl (i_no rfl rfl (kO rfl (a_pick_t rfl rfl rfl (kM rfl rfl (i_no rfl rfl (i_no rfl rfl (i_no rfl rfl (i_no rfl rfl (kO rfl (a_pick_t rfl rfl rfl (i_nil (r_cond_t rfl (rS ?_))))))))))))))))))))))))))))
    refine kM rfl rfl (i_nil (r_ret (then_r (end1 rfl ⟨congrArg (Value.int .i64) ?_, rfl⟩))))
    first | exact (if_pos (by omega)).symm | exact (if_neg (by omega)).symm
  ·refine kG rfl rfl (a_not rfl (kO rfl (a_pick_f rfl rfl rfl (kM rfl rfl (i_no rfl rfl (i_no rfl rfl (i_no rfl rfl (i_no rfl rfl (i_no rfl rfl (kO rfl (a_pick_t rfl rfl rfl (kM rfl rfl (i_no rfl rfl (i_no rfl rfl (i_no rfl rfl (i_no rfl rfl (i_no rfl rfl (kO rfl (a_pick_t rfl rfl rfl (kM rfl rfl (i_no rfl rfl (i_no rfl rfl (i_no rfl rfl (i_no rfl rfl (kO rfl (a_pick_t rfl rfl rfl (kM rfl rfl (i_no rfl rfl ?_))))))))))))))))))))))))))))
   refine i_no rfl rfl (i_no rfl rfl (i_no rfl rfl (kO rfl (a_pick_t rfl rfl rfl (i_nil (r_cond_t rfl (rS (kM rfl rfl (i_nil (r_ret (then_r (end1 rfl ⟨congrArg (Value.int .i64) ?_, rfl⟩))))))))))))
   first | exact (if_pos (by omega)).symm | exact (if_neg (by omega)).symm
 ·refine kO rfl (a_not rfl (kM rfl rfl (i_no rfl rfl (i_no rfl rfl (i_no rfl rfl (i_no rfl rfl (i_no rfl rfl (kO rfl (a_pick_t rfl rfl rfl (kM rfl rfl (i_no rfl rfl (i_no rfl rfl (i_no rfl rfl (i_no rfl rfl (i_no rfl rfl (kO rfl (a_pick_t rfl rfl rfl (kM rfl rfl (i_no rfl rfl (i_no rfl rfl (i_no rfl rfl (i_no rfl rfl (i_no rfl rfl (kO rfl (a_pick_t rfl rfl rfl (kM rfl rfl (i_no rfl rfl ?_)))))))))))))))))))))))))))
  refine i_no rfl rfl (i_no rfl rfl (i_no rfl rfl (kO rfl (a_pick_t rfl rfl rfl (kM rfl rfl (i_no rfl rfl (i_no rfl rfl (i_no rfl rfl (i_no rfl rfl (kO rfl (a_pick_t rfl rfl rfl (i_nil (r_cond_t rfl (rS (kM rfl rfl (i_nil (r_ret (then_r (end1 rfl ⟨congrArg (Value.int .i64) ?_, rfl⟩)))))))))))))))))))
  first | exact (if_pos (by omega)).symm | exact (if_neg (by omega)).symm

theorem Check_s (n : Nat) (m : Int) (al : Option Addr) (cl : Nat) (ls : List (List Int)) (s : St) (hs : Wf s) (hn : 281474976710656 ≤ n) (hL : RowsE s 4 al ls) : Spec Tryz.prog (tabK tabw) X (n + 400) 32 [.agg ⟨[.int .i64 m, .slice al ls.length cl]⟩] s (fun v A => v = .int .i64 (sysE m ls) ∧ A = []) := by
 refine enter bw32_at rfl hs ?_
 unfold bw32
 have hlen := hL.len
 refine rS (kO rfl (a_box rfl rfl rfl (fun b1 => (kM rfl rfl (i_nil (rQ (rS (kO rfl (a_fa rfl (kO rfl (a_ld rfl .here rfl (kO rfl (a_callB rfl rfl (fun s1 h1 => inside_s _ _ _ _ s1 h1.wf) (fun h2 => ?_) (fun h2 => ?_))))))))))))))
 ·refine kO rfl (a_not rfl (i_nil (r_cond_f rfl (r_skip (then_n (rQ (rS (kO rfl (a_fa rfl (kO rfl (a_ld rfl .here rfl (kO rfl (a_lenx rfl hL.spot (kO rfl (a_gtr rfl rfl (fun h3 => ?_) (fun h3 => ?_))))))))))))))))
  ·refine i_nil (r_cond_t rfl (rS (kM rfl rfl (i_nil (r_ret (then_r (end1 rfl ⟨congrArg (Value.int .i64) ?_, rfl⟩)))))))
   unfold sysE
   first
    | (rw [if_neg (by omega)]; done)
    | (rw [if_pos (by omega), if_pos (by omega)]; done)
    | (rw [if_pos (by omega), if_neg (by omega), lmB_bad hx hi (by omega)]; rfl)
    | (rw [if_pos (by omega), if_neg (by omega), lmB_end hi (by omega)]; rfl)
  ·refine i_nil (r_cond_f rfl (r_skip (then_n (rQ (rS (kO rfl (a_fa rfl (kO rfl (a_ld rfl .here rfl (kO rfl (a_lenx rfl hL.spot (kM rfl rfl (i_nil (r_block (r_loop (fun j e A => ∃ (k : Nat), e = [(1, .pointer (some ⟨b1, 0, none⟩)), (15, .slice al ls.length cl), (16, .int .i64 (ls.length : Int)), (17, .int .i64 (k : Int))] ∧ A = (.row b1 24 false ([.int .i64 m, .slice al ls.length cl]) :: []) ∧ j = ls.length - k ∧ k ≤ ls.length ∧ lmB m ls = lmB m (ls.drop k)) 200 0 281474976710656 ?_ (j := _) (env2 := _) (A2 := _) ?_ ?_ ?_ ?_ ⟨0, rfl, rfl, rfl, Nat.zero_le _, rfl⟩)))))))))))))))
   rotate_left
   ·omega
   ·omega
   ·exact (lc 1 rfl (lc 15 rfl (lc 16 rfl (lc 17 rfl Less.nil))))
   ·exact (.cons_cons _ .slnil)
   rintro n hn j _ _ ⟨k, rfl, rfl, rfl, hk, hi⟩
   refine rS (kO rfl (a_lss rfl rfl (fun h4 => ?_) (fun h4 => ?_)))
   ·obtain ⟨q4, o4, y0, y1, y2, y3, ahL, hx, hat, i0, i1, i2, i3⟩ := hL.row4 (k := k) (by omega)
    have hat2 := hat
    obtain ⟨d0, d1, d2, d3, _⟩ := hat2
    have := i0.lo; have := i0.hi
    have := i1.lo; have := i1.hi
    have := i2.lo; have := i2.hi
    have := i3.lo; have := i3.hi
    refine i_nil (rQ (r_cond_t rfl (r_skip (then_n (rQ (r_block (rS (kO rfl (a_iaA (j := k) ahL rfl rfl (by first | rfl | omega) (by first | decide | omega) (kO rfl (a_ldar rfl (by decide) (by assumption) rfl (kO rfl (a_new rfl rfl (fun b5 => (kZ rfl (a_sta rfl rfl .here rfl rfl rfl rfl (i_nil (rS (kO rfl (a_fa rfl (kO rfl (a_ld rfl (.next .here) rfl (kO rfl (a_lda rfl (by decide) .here rfl (kO rfl (a_callE rfl rfl (fun s1 h1 => CheckLimit_s _ _ _ _ _ _ s1 h1.wf) (fun h6 => ?_) (fun h6 => ?_)))))))))))))))))))))))))))
    ·refine kM rfl rfl (i_nil (rS (kM rfl rfl (kO rfl (a_neq rfl rfl (fun h => absurd h (by decide)) (fun _ => (i_nil (r_cond_f rfl (r_skip (block_n (then_n (rI (kO rfl (a_add rfl rfl (by omega) (kM rfl rfl (i_nil (then_n ?_)))))))))))))))))
     exact ⟨rfl, _, _, _, (show ls.length - (k + 1) < ls.length - k by omega), (lc 1 rfl (lc 15 rfl (lc 16 rfl (lc 17 rfl Less.nil)))), (.cons _ (.cons_cons _ .slnil)), ⟨k + 1, rfl, rfl, rfl, by omega, lmB_good hx hi (by assumption)⟩⟩
    ·refine kM rfl rfl (i_nil (rS (kM rfl rfl (kO rfl (a_neq rfl rfl (fun _ => (i_nil (r_cond_t rfl (rS (kM rfl rfl (kM rfl rfl (i_nil (r_ret (block_r (then_r (then_r (block_r (then_r (end1 rfl ⟨congrArg (Value.int .i64) ?_, rfl⟩)))))))))))))) (fun h => absurd h (by decide)))))))
     unfold sysE
     first
      | (rw [if_neg (by omega)]; done)
      | (rw [if_pos (by omega), if_pos (by omega)]; done)
      | (rw [if_pos (by omega), if_neg (by omega), lmB_bad hx hi (by omega)]; rfl)
      | (rw [if_pos (by omega), if_neg (by omega), lmB_end hi (by omega)]; rfl)
   ·refine i_nil (rQ (r_cond_f rfl (r_exit (then_e (then_e (block_hit (then_n (rS (kM rfl rfl (i_nil (r_ret (end1 rfl ⟨congrArg (Value.int .i64) ?_, rfl⟩))))))))))))
    unfold sysE
    first
     | (rw [if_neg (by omega)]; done)
     | (rw [if_pos (by omega), if_pos (by omega)]; done)
     | (rw [if_pos (by omega), if_neg (by omega), lmB_bad hx hi (by omega)]; rfl)
     | (rw [if_pos (by omega), if_neg (by omega), lmB_end hi (by omega)]; rfl)
 ·refine kO rfl (a_not rfl (i_nil (r_cond_t rfl (rS (kM rfl rfl (i_nil (r_ret (then_r (end1 rfl ⟨congrArg (Value.int .i64) ?_, rfl⟩)))))))))
  unfold sysE
  first
   | (rw [if_neg (by omega)]; done)
   | (rw [if_pos (by omega), if_pos (by omega)]; done)
   | (rw [if_pos (by omega), if_neg (by omega), lmB_bad hx hi (by omega)]; rfl)
   | (rw [if_pos (by omega), if_neg (by omega), lmB_end hi (by omega)]; rfl)

theorem rCheck_s (n : Nat) (m : Int) (al : Option Addr) (cl : Nat) (ls : List (List Int)) (s : St) (hs : Wf s) (hn : 281474976710656 ≤ n) (hL : RowsE s 4 al ls) : Spec Tryz.prog (tabK tabw) X (n + 400) 19 [.agg ⟨[.int .i64 m, .slice al ls.length cl]⟩] s (fun v A => v = .int .i64 (sysE m ls) ∧ A = []) := by
 refine enter bw19_at rfl hs ?_
 unfold bw19
 have hlen := hL.len
 refine rS (kO rfl (a_box rfl rfl rfl (fun b1 => (kM rfl rfl (i_nil (rQ (rS (kO rfl (a_fa rfl (kO rfl (a_ld rfl .here rfl (kO rfl (a_callB rfl rfl (fun s1 h1 => rwithin_s _ _ _ _ s1 h1.wf) (fun h2 => ?_) (fun h2 => ?_))))))))))))))
 ·refine kO rfl (a_not rfl (i_nil (r_cond_f rfl (r_skip (then_n (rQ (rS (kO rfl (a_fa rfl (kO rfl (a_ld rfl .here rfl (kO rfl (a_lenx rfl hL.spot (kO rfl (a_gtr rfl rfl (fun h3 => ?_) (fun h3 => ?_))))))))))))))))
  ·refine i_nil (r_cond_t rfl (rS (kM rfl rfl (i_nil (r_ret (then_r (end1 rfl ⟨congrArg (Value.int .i64) ?_, rfl⟩)))))))
   unfold sysE
   first
    | (rw [if_neg (by omega)]; done)
    | (rw [if_pos (by omega), if_pos (by omega)]; done)
    | (rw [if_pos (by omega), if_neg (by omega), lmB_bad hx hi (by omega)]; rfl)
    | (rw [if_pos (by omega), if_neg (by omega), lmB_end hi (by omega)]; rfl)
  ·refine i_nil (r_cond_f rfl (r_skip (then_n (rQ (rS (kO rfl (a_fa rfl (kO rfl (a_ld rfl .here rfl (kO rfl (a_lenx rfl hL.spot (kM rfl rfl (i_nil (r_block (r_loop (fun j e A => ∃ (k : Nat), e = [(1, .pointer (some ⟨b1, 0, none⟩)), (14, .slice al ls.length cl), (15, .int .i64 (ls.length : Int)), (16, .int .i64 (k : Int))] ∧ A = (.row b1 24 false ([.int .i64 m, .slice al ls.length cl]) :: []) ∧ j = ls.length - k ∧ k ≤ ls.length ∧ lmB m ls = lmB m (ls.drop k)) 200 0 281474976710656 ?_ (j := _) (env2 := _) (A2 := _) ?_ ?_ ?_ ?_ ⟨0, rfl, rfl, rfl, Nat.zero_le _, rfl⟩)))))))))))))))
   rotate_left
   ·omega
   ·omega
   ·exact (lc 1 rfl (lc 14 rfl (lc 15 rfl (lc 16 rfl Less.nil))))
   ·exact (.cons_cons _ .slnil)
   rintro n hn j _ _ ⟨k, rfl, rfl, rfl, hk, hi⟩
   refine rS (kO rfl (a_lss rfl rfl (fun h4 => ?_) (fun h4 => ?_)))
   ·obtain ⟨q4, o4, y0, y1, y2, y3, ahL, hx, hat, i0, i1, i2, i3⟩ := hL.row4 (k := k) (by omega)
    have hat2 := hat
    obtain ⟨d0, d1, d2, d3, _⟩ := hat2
    have := i0.lo; have := i0.hi
    have := i1.lo; have := i1.hi
    have := i2.lo; have := i2.hi
    have := i3.lo; have := i3.hi
    refine i_nil (rQ (r_cond_t rfl (r_skip (then_n (rQ (r_block (rS (kO rfl (a_iaA (j := k) ahL rfl rfl (by first | rfl | omega) (by first | decide | omega) (kO rfl (a_ldar rfl (by decide) (by assumption) rfl (kO rfl (a_new rfl rfl (fun b5 => (kZ rfl (a_sta rfl rfl .here rfl rfl rfl rfl (i_nil (rS (kO rfl (a_fa rfl (kO rfl (a_ld rfl (.next .here) rfl (kO rfl (a_lda rfl (by decide) .here rfl (kO rfl (a_callE rfl rfl (fun s1 h1 => rCheckLimit_s _ _ _ _ _ _ s1 h1.wf) (fun h6 => ?_) (fun h6 => ?_)))))))))))))))))))))))))))
    ·refine kO rfl (a_neq rfl rfl (fun h => absurd h (by decide)) (fun _ => (i_nil (r_cond_f rfl (r_skip (block_n (then_n (rI (kO rfl (a_add rfl rfl (by omega) (kM rfl rfl (i_nil (then_n ?_)))))))))))))
     exact ⟨rfl, _, _, _, (show ls.length - (k + 1) < ls.length - k by omega), (lc 1 rfl (lc 14 rfl (lc 15 rfl (lc 16 rfl Less.nil)))), (.cons _ (.cons_cons _ .slnil)), ⟨k + 1, rfl, rfl, rfl, by omega, lmB_good hx hi (by assumption)⟩⟩
    ·refine kO rfl (a_neq rfl rfl (fun _ => (i_nil (r_cond_t rfl (rS (kM rfl rfl (i_nil (r_ret (block_r (then_r (then_r (block_r (then_r (end1 rfl ⟨congrArg (Value.int .i64) ?_, rfl⟩))))))))))))) (fun h => absurd h (by decide)))
     unfold sysE
     first
      | (rw [if_neg (by omega)]; done)
      | (rw [if_pos (by omega), if_pos (by omega)]; done)
      | (rw [if_pos (by omega), if_neg (by omega), lmB_bad hx hi (by omega)]; rfl)
      | (rw [if_pos (by omega), if_neg (by omega), lmB_end hi (by omega)]; rfl)
   ·refine i_nil (rQ (r_cond_f rfl (r_exit (then_e (then_e (block_hit (then_n (rS (kM rfl rfl (i_nil (r_ret (end1 rfl ⟨congrArg (Value.int .i64) ?_, rfl⟩))))))))))))
    unfold sysE
    first
     | (rw [if_neg (by omega)]; done)
     | (rw [if_pos (by omega), if_pos (by omega)]; done)
     | (rw [if_pos (by omega), if_neg (by omega), lmB_bad hx hi (by omega)]; rfl)
     | (rw [if_pos (by omega), if_neg (by omega), lmB_end hi (by omega)]; rfl)
 ·refine kO rfl (a_not rfl (i_nil (r_cond_t rfl (rS (kM rfl rfl (i_nil (r_ret (then_r (end1 rfl ⟨congrArg (Value.int .i64) ?_, rfl⟩)))))))))
  unfold sysE
  first
   | (rw [if_neg (by omega)]; done)
   | (rw [if_pos (by omega), if_pos (by omega)]; done)
   | (rw [if_pos (by omega), if_neg (by omega), lmB_bad hx hi (by omega)]; rfl)
   | (rw [if_pos (by omega), if_neg (by omega), lmB_end hi (by omega)]; rfl)

end
end Ev
end Go.Proofs.YtcpebhdbpkhhiaaGreat

/- Contracts: the flow that takes no limit. -/
namespace Go.Proofs.YtcpebhdbpkhhiaaGreat
open Go Go.RowKit
namespace Ev
/-- A table's numbers from left to right. -/
def rowT (T : Nat → Nat → Int) (n i : Nat) : List Int := (List.range n).map (T i)
theorem rowT_len {T : Nat → Nat → Int} {n i : Nat} : (rowT T n i).length = n := by simp [rowT]
theorem rowT_get {T : Nat → Nat → Int} {n i k : Nat} (h : k < n) : (rowT T n i).getD k 0 = T i k := by
  unfold rowT
  rw [List.getD_eq_getElem?_getD, List.getElem?_map, List.getElem?_range h]; rfl
def updT (T : Nat → Nat → Int) (i k : Nat) (v : Int) : Nat → Nat → Int := fun a b => if a = i ∧ b = k then v else T a b
theorem rowT_set {T : Nat → Nat → Int} {n i k : Nat} {v : Int} : (rowT T n i).set k v = rowT (updT T i k v) n i := by
  unfold rowT
  refine List.ext_getElem? (fun j => ?_)
  rw [List.getElem?_set, List.getElem?_map, List.getElem?_map]
  by_cases hj : k = j
  · subst hj
    rw [if_pos rfl]
    by_cases hk : k < n
    · rw [if_pos (by simpa using hk), List.getElem?_range hk]; simp [updT]
    · rw [if_neg (by simpa using hk), List.getElem?_eq_none (by simp; omega)]; rfl
  · rw [if_neg hj]
    by_cases hk : j < n
    · rw [List.getElem?_range hk]; simp [updT]; intro h; omega
    · rw [List.getElem?_eq_none (by simp; omega)]; rfl
theorem rowT_upd {T : Nat → Nat → Int} {n i j k : Nat} {v : Int} (h : j ≠ i) : rowT (updT T i k v) n j = rowT T n j := by
  unfold rowT
  refine List.map_congr_left (fun b _ => ?_)
  unfold updT
  rw [if_neg (fun q => h q.1)]
/-- The rows of a table, the last one first. -/
def seg (B : Nat → Nat) (n : Nat) (T : Nat → Nat → Int) : Nat → List Ob
  | 0 => []
  | i + 1 => .row (B i) 3 false (ints (rowT T n i)) :: seg B n T i
theorem seg_congr {B B' : Nat → Nat} {n : Nat} {T T' : Nat → Nat → Int} : ∀ {i : Nat}, (∀ j, j < i → B j = B' j) → (∀ j, j < i → rowT T n j = rowT T' n j) → seg B n T i = seg B' n T' i
  | 0, _, _ => rfl
  | i + 1, h, k => by
    show _ :: _ = _ :: _
    rw [h i (by omega), k i (by omega), seg_congr (fun j hj => h j (by omega)) (fun j hj => k j (by omega))]
theorem own_seg {B : Nat → Nat} {n : Nat} {T : Nat → Nat → Int} {R : List Ob} : ∀ {i j : Nat}, j < i → Own (seg B n T i ++ R) (B j) 3 false (ints (rowT T n j))
  | i + 1, j, h => by
    by_cases hj : j = i
    · subst hj; exact .here
    · exact .next (own_seg (by omega))
theorem upd_seg {B : Nat → Nat} {n : Nat} {T : Nat → Nat → Int} {R : List Ob} {k : Nat} {v : Int} : ∀ {i j : Nat}, j < i → Upd (seg B n T i ++ R) (B j) 3 false (ints (rowT T n j)) (ints ((rowT T n j).set k v)) (seg B n (updT T j k v) i ++ R)
  | i + 1, j, h => by
    rw [rowT_set]
    by_cases hj : j = i
    · subst hj
      have e : seg B n (updT T j k v) j = seg B n T j := seg_congr (fun _ _ => rfl) (fun a ha => rowT_upd (by omega))
      show Upd (_ :: (_ ++ R)) _ _ _ _ _ (_ :: (seg B n (updT T j k v) j ++ R))
      rw [e]
      exact .here
    · have := upd_seg (B := B) (n := n) (T := T) (R := R) (k := k) (v := v) (i := i) (j := j) (by omega)
      rw [rowT_set] at this
      show Upd (_ :: (_ ++ R)) _ _ _ _ _ (.row (B i) 3 false (ints (rowT (updT T j k v) n i)) :: (_ ++ R))
      rw [rowT_upd (fun q => hj q.symm)]
      exact .next this
/-- The slices that lead to a table's first rows. -/
def slsT (B : Nat → Nat) (n i m : Nat) : List Value := (List.range m).map fun j => if j < i then .slice (some ⟨B j, 0, none⟩) n n else .slice none 0 0
theorem sls_len {B : Nat → Nat} {n i m : Nat} : (slsT B n i m).length = m := by simp [slsT]
theorem sls_get {B : Nat → Nat} {n i m j : Nat} (hj : j < i) (hm : j < m) : (slsT B n i m)[0 + j * 1]? = some (.slice (some ⟨B j, 0, none⟩) n n) := by
  unfold slsT
  rw [Nat.zero_add, Nat.mul_one, List.getElem?_map, List.getElem?_range hm]
  simp [hj]
theorem sls_zero {B : Nat → Nat} {n m : Nat} : List.replicate m (.slice none 0 0) = slsT B n 0 m := by
  unfold slsT
  refine List.ext_getElem? (fun j => ?_)
  rw [List.getElem?_replicate, List.getElem?_map]
  by_cases h : j < m
  · rw [if_pos h, List.getElem?_range h]; rfl
  · rw [if_neg h, List.getElem?_eq_none (by simp; omega)]; rfl
def updB (B : Nat → Nat) (i b : Nat) : Nat → Nat := fun j => if j = i then b else B j
theorem sls_set {B : Nat → Nat} {n m i b : Nat} : (slsT B n i m).set (0 + i * 1) (.slice (some ⟨b, 0, none⟩) n n) = slsT (updB B i b) n (i + 1) m := by
  unfold slsT
  refine List.ext_getElem? (fun j => ?_)
  rw [Nat.zero_add, Nat.mul_one, List.getElem?_set, List.getElem?_map, List.getElem?_map]
  by_cases hj : i = j
  · subst hj
    rw [if_pos rfl]
    by_cases hk : i < m
    · rw [if_pos (by simpa using hk), List.getElem?_range hk]; simp [updB]
    · rw [if_neg (by simpa using hk), List.getElem?_eq_none (by simp; omega)]; rfl
  · rw [if_neg hj]
    by_cases hk : j < m
    · rw [List.getElem?_range hk]
      simp only [Option.map_some]
      by_cases h1 : j < i
      · rw [if_pos h1, if_pos (by omega)]; simp [updB, show j ≠ i by omega]
      · rw [if_neg h1, if_neg (by omega)]
    · rw [List.getElem?_eq_none (by simp; omega)]; rfl
theorem seg_new {B : Nat → Nat} {n i b : Nat} {T : Nat → Nat → Int} : .row b 3 false (ints (rowT T n i)) :: seg B n T i = seg (updB B i b) n T (i + 1) := by
  show _ = _ :: _
  rw [show updB B i b i = b by simp [updB], seg_congr (B := B) (B' := updB B i b) (fun j hj => by simp [updB, show j ≠ i by omega]) (fun _ _ => rfl)]
/-- Whether a limit names an unknown. -/
def nam (r : List Int) (v : Nat) : Prop := r.getD 0 0 = (v : Int) ∨ r.getD 1 0 = (v : Int)
instance (r : List Int) (v : Nat) : Decidable (nam r v) := inferInstanceAs (Decidable (_ ∨ _))
/-- The first limits that name an unknown. -/
def nl (ls : List (List Int)) : Nat → Nat → List Int
  | 0, _ => []
  | k + 1, v => nl ls k v ++ (if nam (ls.getD k []) v then [(k : Int)] else [])
def updL (L : Nat → List Int) (v : Nat) (l : List Int) : Nat → List Int := fun w => if w = v then l else L w
theorem nl_step {ls : List (List Int)} {k u0 u1 : Nat} {y2 y3 : Int} (h : ls[k]? = some [(u0 : Int), (u1 : Int), y2, y3]) (hne : ¬ u0 = u1) : nl ls (k + 1) = updL (updL (nl ls k) u0 (nl ls k u0 ++ [(k : Int)])) u1 (nl ls k u1 ++ [(k : Int)]) := by
  funext v
  have e : ls.getD k [] = [(u0 : Int), (u1 : Int), y2, y3] := by rw [List.getD_eq_getElem?_getD, h]; rfl
  show nl ls k v ++ (if nam (ls.getD k []) v then [(k : Int)] else []) = _
  rw [e]
  unfold updL
  by_cases h1 : v = u1
  · subst h1
    rw [if_pos rfl, if_pos (.inr rfl)]
  · rw [if_neg h1]
    by_cases h0 : v = u0
    · subst h0
      rw [if_pos rfl, if_pos (.inl rfl)]
    · rw [if_neg h0, if_neg (fun q => by rcases q with q | q <;> (simp at q; omega)), List.append_nil]
/-- Rows of unknowns, in the order in which they were made. -/
def nobj (B : Nat → Nat) (L : Nat → List Int) (O : List Nat) : List Ob := O.map fun v => .row (B v) 3 true (ints (L v))
def nsv (B : Nat → Nat) (L : Nat → List Int) (v : Nat) : Value := if L v = [] then .slice none 0 0 else .slice (some ⟨B v, 0, none⟩) (L v).length OPEN
def nsl (B : Nat → Nat) (L : Nat → List Int) (N : Nat) : List Value := (List.range N).map (nsv B L)
theorem nsl_len {B : Nat → Nat} {L : Nat → List Int} {N : Nat} : (nsl B L N).length = N := by simp [nsl]
theorem nsl_get {B : Nat → Nat} {L : Nat → List Int} {N v : Nat} (h : v < N) : (nsl B L N)[0 + v * 1]? = some (nsv B L v) := by
  unfold nsl
  rw [Nat.zero_add, Nat.mul_one, List.getElem?_map, List.getElem?_range h]; rfl
theorem nsv_ne {B : Nat → Nat} {L : Nat → List Int} {v w b : Nat} {l : List Int} (h : ¬ w = v) : nsv (updB B v b) (updL L v l) w = nsv B L w := by
  unfold nsv updB updL
  rw [if_neg h, if_neg h]
theorem nsl_set {B : Nat → Nat} {L : Nat → List Int} {N v b m : Nat} {z : Int} (hm : (L v).length + m = (L v ++ [z]).length := by simp) : (nsl B L N).set (0 + v * 1) (.slice (some ⟨b, 0, none⟩) ((L v).length + m) OPEN) = nsl (updB B v b) (updL L v (L v ++ [z])) N := by
  unfold nsl
  refine List.ext_getElem? (fun j => ?_)
  rw [Nat.zero_add, Nat.mul_one, List.getElem?_set, List.getElem?_map, List.getElem?_map]
  by_cases hj : v = j
  · subst hj
    rw [if_pos rfl]
    by_cases hk : v < N
    · rw [if_pos (by simpa using hk), List.getElem?_range hk]
      simp only [Option.map_some, nsv, updL, updB, if_true]
      rw [if_neg (by simp), hm]
    · rw [if_neg (by simpa using hk), List.getElem?_eq_none (by simp; omega)]; rfl
  · rw [if_neg hj]
    by_cases hk : j < N
    · rw [List.getElem?_range hk]
      simp only [Option.map_some]
      rw [nsv_ne (fun q => hj q.symm)]
    · rw [List.getElem?_eq_none (by simp; omega)]; rfl
theorem nsl_set2 {B : Nat → Nat} {L : Nat → List Int} {N u w b0 b m : Nat} {l0 : List Int} {z : Int} (h : ¬ w = u) (hm : (L w).length + m = (L w ++ [z]).length := by simp) : (nsl (updB B u b0) (updL L u l0) N).set (0 + w * 1) (.slice (some ⟨b, 0, none⟩) ((L w).length + m) OPEN) = nsl (updB (updB B u b0) w b) (updL (updL L u l0) w (L w ++ [z])) N := by
  have e : updL L u l0 w = L w := if_neg h
  have := nsl_set (B := updB B u b0) (L := updL L u l0) (N := N) (v := w) (b := b) (m := m) (z := z) (by rw [e]; exact hm)
  rwa [e] at this
theorem nsl_nil {N : Nat} {ls : List (List Int)} {B : Nat → Nat} : List.replicate N (.slice none 0 0) = nsl B (nl ls 0) N := by
  unfold nsl
  refine List.ext_getElem? (fun j => ?_)
  rw [List.getElem?_replicate, List.getElem?_map]
  by_cases h : j < N
  · rw [if_pos h, List.getElem?_range h]; rfl
  · rw [if_neg h, List.getElem?_eq_none (by simp; omega)]; rfl
/-- The order names each unknown that has limits, once. -/
def NO (O : List Nat) (N : Nat) (L : Nat → List Int) : Prop := O.Nodup ∧ ∀ v, v < N → (v ∈ O ↔ L v ≠ [])
theorem NO.zero {N : Nat} {ls : List (List Int)} : NO [] N (nl ls 0) := ⟨List.nodup_nil, fun v _ => ⟨fun h => absurd h (List.not_mem_nil), fun h => absurd rfl h⟩⟩
theorem NO.put {O : List Nat} {N : Nat} {L : Nat → List Int} {v : Nat} {l : List Int} (h : NO O N L) (hl : l ≠ []) : NO (v :: O.erase v) N (updL L v l) := by
  refine ⟨List.nodup_cons.2 ⟨fun q => (h.1.mem_erase_iff.1 q).1 rfl, h.1.erase v⟩, fun w hw => ?_⟩
  unfold updL
  rw [List.mem_cons]
  by_cases q : w = v
  · subst q; rw [if_pos rfl]; exact ⟨fun _ => hl, fun _ => .inl rfl⟩
  · rw [if_neg q, h.1.mem_erase_iff]
    exact ⟨fun z => by rcases z with z | z; · exact absurd z q
                       · exact (h.2 w hw).1 z.2, fun z => .inr ⟨q, (h.2 w hw).2 z⟩⟩
theorem del_nobj {B : Nat → Nat} {L : Nat → List Int} {R : List Ob} {v : Nat} : ∀ {O : List Nat}, v ∈ O → Del (nobj B L O ++ R) (B v) 3 true (ints (L v)) (nobj B L (O.erase v) ++ R)
  | w :: O, h => by
    by_cases q : w = v
    · subst q
      rw [List.erase_cons_head]
      exact .here
    · rw [List.erase_cons_tail (by simpa using q)]
      refine .next (del_nobj ?_)
      rcases List.mem_cons.1 h with h | h
      · exact absurd h.symm q
      · exact h
theorem nobj_congr {B B' : Nat → Nat} {L L' : Nat → List Int} : ∀ {O : List Nat}, (∀ v ∈ O, B v = B' v ∧ L v = L' v) → nobj B L O = nobj B' L' O
  | [], _ => rfl
  | w :: O, h => by
    obtain ⟨h1, h2⟩ := h w (by simp)
    show Ob.row (B w) 3 true (ints (L w)) :: nobj B L O = Ob.row (B' w) 3 true (ints (L' w)) :: nobj B' L' O
    rw [h1, h2, nobj_congr (fun v hv => h v (by simp [hv]))]
theorem nobj_put {B : Nat → Nat} {L : Nat → List Int} {O : List Nat} {v b : Nat} {l : List Int} (h : O.Nodup) : .row b 3 true (ints l) :: nobj B L (O.erase v) = nobj (updB B v b) (updL L v l) (v :: O.erase v) := by
  show _ = Ob.row (updB B v b v) 3 true (ints (updL L v l v)) :: nobj (updB B v b) (updL L v l) (O.erase v)
  rw [show updB B v b v = b by simp [updB], show updL L v l v = l by simp [updL], nobj_congr (B := B) (B' := updB B v b) (L := L) (L' := updL L v l) (fun w hw => by
    have : w ≠ v := fun q => (h.mem_erase_iff.1 (q ▸ hw)).1 rfl
    simp [updB, updL, this])]
/-- append to the row of an unknown, whether it is there or not. -/
theorem a_nap {P : Program} {C : Nat → (CF → Bool) → Bool} {X : FuncId → List Value → St → (Value → St → Bool) → Bool} {s0 : St} {n nt : Nat} {env : List (Nat × Value)} {A A' : List Ob} {R : Value → List Ob → Prop} {bytes v : Nat} {B : Nat → Nat} {L : Nat → List Int} {z0 : List Value} {zs : List Int} {x y : Ev.X} {yv : Value} (hx : xv env x = some (nsv B L v)) (hy : xv env y = some yv) (hsrc : Src s0 A 1 1 (ints zs) yv) (hn : L v = [] → A' = A) (hd : L v ≠ [] → Del A (B v) 3 true (ints (L v)) A') (hb1 : (L v).length + 1 ≤ 1048576) (hb2 : bytes * ((L v).length + 1) ≤ 1073741824)
    (h : ∀ b, R (.slice (some ⟨b, 0, none⟩) ((L v).length + 1) OPEN) (.row b 3 true (ints (L v ++ zs)) :: A')) : OpA P C X s0 n nt (.app 3 1 bytes z0 false x y) env A R := by
  have hz : zs.length = 1 := by
    have := hsrc.choose_spec
    obtain ⟨_, _, _, _, hml, _⟩ := hsrc
    simpa [ints] using hml
  by_cases q : L v = []
  · have e : nsv B L v = .slice none 0 0 := if_pos q
    rw [e] at hx
    rw [hn q] at h
    rw [q] at h hb1 hb2
    exact a_appn hx hy hsrc (by decide) hb1 hb2 h
  · have e : nsv B L v = .slice (some ⟨B v, 0, none⟩) (L v).length OPEN := if_neg q
    rw [e] at hx
    refine a_app hx hy hsrc (hd q) (by simp [ints]) (.inl ⟨rfl, rfl⟩) (by decide) hb1 hb2 (fun b => ?_)
    have := h b
    rwa [show ints (L v ++ zs) = ints (L v) ++ ints zs by simp [ints]] at this
theorem nl_len {ls : List (List Int)} {k : Nat} (h : ∀ v, (nl ls k v).length ≤ k) (v : Nat) : (nl ls (k + 1) v).length ≤ k + 1 := by
  have := h v
  show (nl ls k v ++ _).length ≤ _
  rw [List.length_append]
  split <;> simp <;> omega
theorem nobj_no {B : Nat → Nat} {L : Nat → List Int} {O : List Nat} {v : Nat} (h : ¬ v ∈ O) : nobj B L (O.erase v) = nobj B L O := by rw [List.erase_of_not_mem h]
theorem erase_two {O : List Nat} {u0 u1 : Nat} (h : ¬ u0 = u1) : (u0 :: O.erase u0).erase u1 = u0 :: (O.erase u0).erase u1 := List.erase_cons_tail (by simpa using h)
theorem NO.put2 {O : List Nat} {N : Nat} {L : Nat → List Int} {v w : Nat} {l : List Int} (h : NO (v :: O.erase v) N L) (hne : ¬ v = w) (hl : l ≠ []) : NO (w :: (v :: O.erase v).erase w) N (updL L w l) := h.put hl
theorem nobj_two {B : Nat → Nat} {L : Nat → List Int} {O : List Nat} {R : List Ob} {u0 u1 b0 b1 : Nat} {l0 l1 : List Int} (h : O.Nodup) (hne : ¬ u0 = u1) : .row b1 3 true (ints l1) :: .row b0 3 true (ints l0) :: (nobj B L ((O.erase u0).erase u1) ++ R) = nobj (updB (updB B u0 b0) u1 b1) (updL (updL L u0 l0) u1 l1) (u1 :: (u0 :: O.erase u0).erase u1) ++ R := by
  have h2 : (u0 :: O.erase u0).Nodup := List.nodup_cons.2 ⟨fun q => (h.mem_erase_iff.1 q).1 rfl, h.erase u0⟩
  have e : nobj (updB B u0 b0) (updL L u0 l0) ((u0 :: O.erase u0).erase u1) = .row b0 3 true (ints l0) :: nobj B L ((O.erase u0).erase u1) := by
    rw [erase_two hne]
    show Ob.row (updB B u0 b0 u0) 3 true (ints (updL L u0 l0 u0)) :: nobj (updB B u0 b0) (updL L u0 l0) ((O.erase u0).erase u1) = _
    rw [show updB B u0 b0 u0 = b0 by simp [updB], show updL L u0 l0 u0 = l0 by simp [updL], nobj_congr (B := updB B u0 b0) (B' := B) (L := updL L u0 l0) (L' := L) (fun w hw => by
      have : w ≠ u0 := fun q => (h.mem_erase_iff.1 (q ▸ List.mem_of_mem_erase hw)).1 rfl
      simp [updB, updL, this])]
  rw [← nobj_put (B := updB B u0 b0) (L := updL L u0 l0) (O := u0 :: O.erase u0) (v := u1) (b := b1) (l := l1) h2, e]; rfl

section
variable {X : FuncId → List Value → St → (Value → St → Bool) → Bool}
theorem newFlow_s (n : Nat) (M : Nat) (al : Option Addr) (cl : Nat) (ls : List (List Int)) (s : St) (hs : Wf s) (hn : 844424930131968 ≤ n) (hL : RowsE s 4 al ls) (hM : M ≤ 64) (h400 : ls.length ≤ 400) (hlm : lmB (M : Int) ls = true) : Spec Tryz.prog (tabK tabw) X (n + 900) 21 [.agg ⟨[.int .i64 (M : Int), .slice al ls.length cl]⟩] s (fun v A => ∃ b bt bn O B, v = .pointer (some ⟨b, 0, none⟩) ∧ A = nobj B (nl ls ls.length) O ++ [.row b 64 false [.int .i64 (M : Int), .slice al ls.length cl, .slice (some ⟨bt, 0, none⟩) ls.length ls.length, .slice (some ⟨bn, 0, none⟩) (M + 1) (M + 1)], .row bn 25 false (nsl B (nl ls ls.length) (M + 1)), .row bt 3 false (ints (List.replicate ls.length 0))] ∧ NO O (M + 1) (nl ls ls.length)) := by
 refine enter bw21_at rfl hs ?_
 unfold bw21
 have hlen := hL.len
 refine rS (kO rfl (a_box rfl rfl rfl (fun b1 => (kM rfl rfl (i_nil (rS (kO rfl (a_lda rfl (by decide) .here rfl (kO rfl (a_fa rfl (kO rfl (a_ld rfl .here rfl (kO rfl (a_lenx rfl hL.spot (kO rfl (a_mksI (m := ls.length) (c := ls.length) rfl rfl (by omega) (by omega) (by omega) (fun b2 => (kO rfl (a_fa rfl (kO rfl (a_ld rfl (.next .here) rfl (kO rfl (a_add rfl rfl (by omega) (kO rfl (a_mks1 (m := M + 1) (c := M + 1) rfl rfl (by omega) (by omega) (by omega) (fun b3 => (kO rfl (a_build rfl rfl (kO rfl (a_box rfl rfl rfl (fun b4 => (kM rfl rfl (i_nil (rQ (rS (kO rfl (a_fa rfl (kO rfl (a_ld rfl (.next (.next (.next .here))) rfl (kO rfl (a_lenx rfl hL.spot (kM rfl rfl ?_))))))))))))))))))))))))))))))))))))))))))
 refine i_nil (r_block ?_)
 rw [nsl_nil (ls := ls) (B := fun _ => 0)]
 refine r_loop (fun j e A => ∃ (k : Nat) (O : List Nat) (B : Nat → Nat), e = [(1, .pointer (some ⟨b1, 0, none⟩)), (3, .pointer (some ⟨b4, 0, none⟩)), (18, .slice al ls.length cl), (19, .int .i64 (ls.length : Int)), (20, .int .i64 (k : Int))] ∧ A = (nobj B (nl ls k) O ++ (.row b4 64 false ([.int .i64 (M : Int), .slice al ls.length cl, .slice (some ⟨b2, 0, none⟩) ls.length ls.length, .slice (some ⟨b3, 0, none⟩) (M + 1) (M + 1)]) :: (.row b3 25 false (nsl B (nl ls k) (M + 1)) :: (.row b2 3 false (ints (List.replicate ls.length 0)) :: (.row b1 24 false ([.int .i64 (M : Int), .slice al ls.length cl]) :: []))))) ∧ j = ls.length - k ∧ k ≤ ls.length ∧ NO O (M + 1) (nl ls k) ∧ ∀ v, (nl ls k v).length ≤ k) 600 0 281474976710656 ?_ (j := _) (env2 := _) (A2 := _) ?_ ?_ ?_ ?_ ⟨0, [], fun _ => 0, rfl, rfl, rfl, Nat.zero_le _, NO.zero, (fun _ => Nat.le_refl _)⟩
 rotate_left
 ·omega
 ·omega
 ·exact (lc 1 rfl (lc 3 rfl (lc 18 rfl (lc 19 rfl (lc 20 rfl Less.nil)))))
 ·exact (.cons_cons _ (.cons_cons _ (.cons_cons _ (.cons_cons _ .slnil))))
 rintro n hn j _ _ ⟨k, O, B, rfl, rfl, rfl, hk, hO, hnl⟩
 refine rS (kO rfl (a_lss rfl rfl (fun h5 => ?_) (fun h5 => ?_)))
 ·obtain ⟨q4, o4, y0, y1, y2, y3, ahL, hx, hat, i0, i1, i2, i3⟩ := hL.row4 (k := k) (by omega)
  have hat2 := hat
  obtain ⟨d0, d1, d2, d3, _⟩ := hat2
  have := i0.lo; have := i0.hi
  have := i1.lo; have := i1.hi
  have := i2.lo; have := i2.hi
  have := i3.lo; have := i3.hi
  have hc4 := lmB_at hlm hx
  obtain ⟨u0, rfl⟩ : ∃ q : Nat, y0 = (q : Int) := ⟨y0.toNat, by omega⟩
  obtain ⟨u1, rfl⟩ : ∃ q : Nat, y1 = (q : Int) := ⟨y1.toNat, by omega⟩
  have hl0 := hnl u0
  have hl1 := hnl u1
  refine i_nil (rQ (r_cond_t rfl (r_skip (then_n (rQ (r_block (rS (kM rfl rfl (kO rfl (a_iaA (j := k) ahL rfl rfl (by first | rfl | omega) (by first | decide | omega) (kO rfl (a_ldar rfl (by decide) (by assumption) rfl (kO rfl (a_new rfl rfl (fun b6 => (kM rfl rfl (kZ rfl (a_sta rfl rfl .here rfl rfl rfl rfl (i_nil (rS (kM rfl rfl (kO rfl (a_nilc rfl (kO rfl (a_fa rfl (kO rfl (a_ld rfl (.next (.app .here)) rfl (kO rfl (a_fa rfl (kO rfl (a_ld rfl .here rfl (kM rfl rfl (kO rfl (a_nilc rfl ?_))))))))))))))))))))))))))))))))))
  refine kO rfl (a_fa rfl (kO rfl (a_ld rfl (.next (.app .here)) rfl (kO rfl (a_fa rfl (kO rfl (a_ld rfl .here rfl (kO rfl (a_ia (j := u0) rfl rfl (by omega) (by omega) (kO rfl (a_ld rfl (.next (.app (.next .here))) (nsl_get (by omega)) (kM rfl rfl (kO rfl (a_lit rfl rfl rfl (fun b7 => (kO rfl (a_nap (zs := [_]) rfl rfl (Src.own .here rfl (by simp [ints])) (fun h => by rw [nobj_no (show ¬ u0 ∈ O from fun q => (hO.2 _ (by omega)).1 q h)]) (fun h => .next (.next (del_nobj ((hO.2 _ (by omega)).2 h)))) (by omega) (by omega) (fun b8 => (kZ rfl (a_again rfl rfl (.next (.next .here)) rfl (by simp [eqV, eqA, eqL, kindEq, intEq_eq, eqV_sl hL.spot]) (kZ rfl (a_again rfl rfl (.next (.next (.next (.app .here)))) rfl (by simp [eqV, eqA, eqL, kindEq, intEq_eq, eqV_sl hL.spot]) (kO rfl (a_ia (j := u0) rfl rfl (by omega) (by omega) (kZ rfl (a_st rfl rfl (by rw [nsl_set (z := (k : Int))]; exact (.next (.next (.next (.app (.next .here)))))) (by rw [Nat.blt_eq, nsl_len]; omega) rfl (i_nil (rI (kM rfl rfl (kO rfl (a_nilc rfl (kO rfl (a_fa rfl (kO rfl (a_ld rfl (.next (.next (.next (.app .here)))) rfl (kO rfl (a_fa rfl (kO rfl (a_ld rfl (.next (.next .here)) rfl (kM rfl rfl (kO rfl (a_nilc rfl (kO rfl (a_fa rfl ?_))))))))))))))))))))))))))))))))))))))))))))
  refine kO rfl (a_ld rfl (.next (.next (.next (.app .here)))) rfl (kO rfl (a_fa rfl (kO rfl (a_ld rfl (.next (.next .here)) rfl (kO rfl (a_ia (j := u1) rfl rfl (by omega) (by omega) (kO rfl (a_ld rfl (.next (.next (.next (.app (.next .here))))) (by rw [nsl_get (by omega), nsv_ne (by omega)]) (kM rfl rfl (kO rfl (a_lit rfl rfl rfl (fun b9 => (kO rfl (a_nap (zs := [_]) rfl rfl (Src.own .here rfl (by simp [ints])) (fun h => by rw [nobj_no (show ¬ u1 ∈ O.erase u0 from fun q => (hO.2 _ (by omega)).1 (List.mem_of_mem_erase q) h)]) (fun h => .next (.next (.next (.next (del_nobj ((List.mem_erase_of_ne (by omega)).2 ((hO.2 _ (by omega)).2 h))))))) (by omega) (by omega) (fun b10 => (kZ rfl (a_again rfl rfl (.next (.next (.next (.next .here)))) rfl (by simp [eqV, eqA, eqL, kindEq, intEq_eq, eqV_sl hL.spot]) (kZ rfl (a_again rfl rfl (.next (.next (.next (.next (.next (.app .here)))))) rfl (by simp [eqV, eqA, eqL, kindEq, intEq_eq, eqV_sl hL.spot]) (kO rfl (a_ia (j := u1) rfl rfl (by omega) (by omega) (kZ rfl (a_st rfl rfl (by rw [nsl_set2 (show ¬ u1 = u0 by omega) (z := (k : Int))]; exact (.next (.next (.next (.next (.next (.app (.next .here)))))))) (by rw [Nat.blt_eq, nsl_len]; omega) rfl (i_nil (block_n (then_n (rI (kO rfl (a_add rfl rfl (by omega) (kM rfl rfl (i_nil (then_n ?_)))))))))))))))))))))))))))))))))
  have hst := nl_step hx (by omega)
  exact ⟨rfl, _, _, _, (show ls.length - (k + 1) < ls.length - k by omega), (lc 1 rfl (lc 3 rfl (lc 18 rfl (lc 19 rfl (lc 20 rfl Less.nil))))), (.cons_cons _ (.cons _ (.cons_cons _ (.cons _ (.cons _ (List.Sublist.append (List.Sublist.refl _) (.cons_cons _ (.cons_cons _ (.cons_cons _ (.cons_cons _ .slnil)))))))))), ⟨k + 1, (u1 :: (u0 :: O.erase u0).erase u1), updB (updB B u0 b8) u1 b10, rfl, (by rw [hst]; exact nobj_two hO.1 (by omega)), rfl, by omega, (by rw [hst]; exact (hO.put (by simp)).put2 (by omega) (by simp)), (fun v => nl_len hnl v)⟩⟩
 ·refine i_nil (rQ (r_cond_f rfl (r_exit (then_e (then_e (block_hit (then_n (rS (kM rfl rfl (kM rfl rfl (i_nil (r_ret ?_))))))))))))
  have hkN : k = ls.length := by omega
  subst hkN
  exact end1A rfl (List.Sublist.append (List.Sublist.refl _) (.cons_cons _ (.cons_cons _ (.cons_cons _ (.cons _ .slnil))))) ⟨_, _, _, O, B, rfl, rfl, hO⟩

end
end Ev
end Go.Proofs.YtcpebhdbpkhhiaaGreat

/- Once through all steps: rows of numbers and of steps; what is lowered. -/
namespace Go.Proofs.YtcpebhdbpkhhiaaGreat
open Go Go.RowKit
namespace Ev
def xs (x : Nat → Int) (N : Nat) : List Int := (List.range N).map x
theorem xs_len {x : Nat → Int} {N : Nat} : (xs x N).length = N := by simp [xs]
theorem xs_get {x : Nat → Int} {N k : Nat} (h : k < N) : (xs x N).getD k 0 = x k := by
  unfold xs
  rw [List.getD_eq_getElem?_getD, List.getElem?_map, List.getElem?_range h]; rfl
def updX {α : Type} (x : Nat → α) (i : Nat) (v : α) : Nat → α := fun j => if j = i then v else x j
theorem xs_set {x : Nat → Int} {N k : Nat} {v : Int} : (xs x N).set k v = xs (updX x k v) N := by
  unfold xs
  refine List.ext_getElem? (fun j => ?_)
  rw [List.getElem?_set, List.getElem?_map, List.getElem?_map]
  by_cases hj : k = j
  · subst hj
    rw [if_pos rfl]
    by_cases hk : k < N
    · rw [if_pos (by simpa using hk), List.getElem?_range hk]; simp [updX]
    · rw [if_neg (by simpa using hk), List.getElem?_eq_none (by simp; omega)]; rfl
  · rw [if_neg hj]
    by_cases hk : j < N
    · rw [List.getElem?_range hk]; simp [updX]; intro h; omega
    · rw [List.getElem?_eq_none (by simp; omega)]; rfl
def cell (p : Nat × Nat × Nat × Int) : List Value := [.int .i64 p.1, .bool false, .int .i64 p.2.1, .int .i64 p.2.2.1, .int .i64 p.2.2.2]
def cvs (c : Nat → Nat × Nat × Nat × Int) : Nat → List Value
  | 0 => []
  | n + 1 => cvs c n ++ cell (c n)
theorem cvs_len {c : Nat → Nat × Nat × Nat × Int} : ∀ {N : Nat}, (cvs c N).length = N * 5
  | 0 => rfl
  | N + 1 => by
    show (cvs c N ++ cell (c N)).length = _
    rw [List.length_append, cvs_len]
    show N * 5 + 5 = _
    omega
theorem cvs_get {c : Nat → Nat × Nat × Nat × Int} {j t : Nat} (ht : t < 5) : ∀ {N : Nat}, j < N → (cvs c N)[j * 5 + t]? = (cell (c j))[t]?
  | N + 1, h => by
    show (cvs c N ++ cell (c N))[j * 5 + t]? = _
    by_cases q : j = N
    · subst q
      rw [List.getElem?_append_right (by rw [cvs_len]; omega), cvs_len]
      congr 1; omega
    · rw [List.getElem?_append_left (by rw [cvs_len]; omega)]
      exact cvs_get ht (by omega)
theorem cvs_zero {N : Nat} : repeatN [.int .i64 0, .bool false, .int .i64 0, .int .i64 0, .int .i64 0] N = cvs (fun _ => (0, 0, 0, 0)) N := by
  have key : ∀ n, repeatN [.int .i64 0, .bool false, .int .i64 0, .int .i64 0, .int .i64 0] n ++ cell (0, 0, 0, 0) = cell (0, 0, 0, 0) ++ repeatN [.int .i64 0, .bool false, .int .i64 0, .int .i64 0, .int .i64 0] n := by
    intro n
    induction n with
    | zero => rfl
    | succ n ih =>
      show (cell (0, 0, 0, 0) ++ repeatN _ n) ++ cell (0, 0, 0, 0) = cell (0, 0, 0, 0) ++ (cell (0, 0, 0, 0) ++ repeatN _ n)
      rw [List.append_assoc, ih]
  induction N with
  | zero => rfl
  | succ n ih =>
    show cell (0, 0, 0, 0) ++ repeatN _ n = cvs _ n ++ cell (0, 0, 0, 0)
    rw [← key, ih]
theorem overL_some : ∀ {r l : List Value} {i : Nat}, i + r.length ≤ l.length → ∃ l', overL l i r = some l'
  | [], l, _, _ => ⟨l, rfl⟩
  | v :: r, l, i, h => by
    have h1 : i < l.length := by simp at h; omega
    obtain ⟨l', e⟩ := overL_some (r := r) (l := l.set i v) (i := i + 1) (by rw [List.length_set]; simp at h; omega)
    refine ⟨l', ?_⟩
    unfold overL
    rw [List.getElem?_eq_getElem h1]
    exact e
theorem cam_over {c : Nat → Nat × Nat × Nat × Int} {N j : Nat} {p : Nat × Nat × Nat × Int} (h : j < N) : overL (cvs c N) (0 + j * 5) (cell p) = some (cvs (updX c j p) N) := by
  rw [Nat.zero_add]
  have hl : j * 5 + (cell p).length ≤ (cvs c N).length := by rw [cvs_len]; show j * 5 + 5 ≤ _; omega
  obtain ⟨l', e⟩ := overL_some hl
  rw [e]
  obtain ⟨e2, _⟩ := overL_eq e (by omega)
  subst e2
  congr 1
  refine List.ext_getElem? (fun q => ?_)
  rw [over_get hl]
  by_cases hq : q < N * 5
  · have e3 : q = q / 5 * 5 + q % 5 := by omega
    have h5 : q % 5 < 5 := by omega
    have hn : q / 5 < N := by omega
    by_cases hj : q / 5 = j
    · rw [if_pos (by show _ ∧ q < j * 5 + 5; omega)]
      rw [show (cvs (updX c j p) N)[q]? = (cell p)[q % 5]? from by rw [e3, cvs_get h5 hn]; simp [updX, hj, h5]]
      congr 1; omega
    · rw [if_neg (by show ¬ (_ ∧ q < j * 5 + 5); omega)]
      rw [show (cvs (updX c j p) N)[q]? = (cvs c N)[q]? from by rw [e3, cvs_get h5 hn, cvs_get h5 hn]; simp [updX, hj]]
  · rw [if_neg (by show ¬ (_ ∧ q < j * 5 + 5); omega), List.getElem?_eq_none (by rw [cvs_len]; omega), List.getElem?_eq_none (by rw [cvs_len]; omega)]
section
variable {P : Program} {C : Nat → (CF → Bool) → Bool} {X : FuncId → List Value → St → (Value → St → Bool) → Bool} {s0 : St} {n nt : Nat} {env : List (Nat × Value)} {A : List Ob} {R : Value → List Ob → Prop} {B : Nat → Nat} {L : Nat → List Int} {v : Nat}
theorem a_lenN {x : Ev.X} (hx : xv env x = some (nsv B L v)) (h : R (.int .i64 ((L v).length : Int)) A) : OpA P C X s0 n nt (.len x) env A R := by
  by_cases q : L v = []
  · unfold nsv at hx
    rw [if_pos q] at hx
    rw [q] at h
    exact a_len0 hx h
  · unfold nsv at hx
    rw [if_neg q] at hx
    exact a_len hx h
theorem a_iaN {x i : Ev.X} {j size : Nat} {ik : IntKind} {z : Int} (hx : xv env x = some (nsv B L v)) (hi : xv env i = some (.int ik z)) (hz : z = (j : Int)) (hj : j < (L v).length) (h : R (.pointer (some ⟨B v, 0 + j * size, none⟩)) A) : OpA P C X s0 n nt (.ia x i size) env A R := by
  have q : ¬ L v = [] := fun e => by rw [e] at hj; exact absurd hj (Nat.not_lt_zero _)
  unfold nsv at hx
  rw [if_neg q] at hx
  exact a_ia hx hi hz hj h
theorem a_mks5 {e bytes m c : Nat} {z : List Value} {size : Nat} {x y : Ev.X} (hx : xv env x = some (.int .i64 (m : Int))) (hy : xv env y = some (.int .i64 (c : Int))) (hc : m ≤ c) (hb1 : c ≤ 1048576) (hb2 : bytes * c ≤ 1073741824) (hs2 : c * size = (repeatN z c).length)
    (h : ∀ b, R (.slice (some ⟨b, 0, none⟩) m c) (.row b e false (repeatN z c) :: A)) : OpA P C X s0 n nt (.mks e size bytes z x y) env A R := .mk fun s hs T hT k hk => by
  refine valE_of hT (k := fun l => valK T y (fun c => mksK s e size bytes z l c k)) hx (valE_of hT (k := fun c => mksK s e size bytes z _ c k) hy ?_)
  show ifB true (ifB true (ifB (Nat.ble m c) (ifB (Nat.ble c 1048576) (ifB (Nat.ble (Nat.mul bytes c) 1073741824) (addsK .leaf 0 (repeatN z c) _) false) false) false) false) false = true
  rw [show Nat.ble m c = true from by rw [Nat.ble_eq]; exact hc, show Nat.ble c 1048576 = true from by rw [Nat.ble_eq]; exact hb1, show Nat.ble (Nat.mul bytes c) 1073741824 = true from by rw [Nat.ble_eq]; exact hb2]
  show addsK .leaf 0 (repeatN z c) _ = true
  refine rowOfList (fun t ht hg => nOf_of ?_)
  rw [forceN_eq]
  exact newRow_of (l := repeatN z c) hs2 hs.wf ht hg (fun s' xx _ ho => hk _ _ ⟨_, hs.new xx ho, h s.n⟩)
end
theorem own_nobj {B : Nat → Nat} {L : Nat → List Int} {R : List Ob} {v : Nat} : ∀ {O : List Nat}, v ∈ O → Own (nobj B L O ++ R) (B v) 3 true (ints (L v))
  | w :: O, h => by
    by_cases q : v = w
    · subst q; exact .here
    · refine .next (own_nobj ?_)
      rcases List.mem_cons.1 h with h | h
      · exact absurd h q
      · exact h
/-- The indices are those of limits that name the unknown. -/
theorem nl_mem {ls : List (List Int)} {v : Nat} : ∀ {k q : Nat}, q < (nl ls k v).length → ∃ i : Nat, (nl ls k v).getD q 0 = (i : Int) ∧ i < k ∧ nam (ls.getD i []) v
  | 0, q, h => absurd h (Nat.not_lt_zero q)
  | k + 1, q, h => by
    have e : nl ls (k + 1) v = nl ls k v ++ (if nam (ls.getD k []) v then [(k : Int)] else []) := rfl
    rw [e] at h ⊢
    rw [List.length_append] at h
    rw [List.getD_eq_getElem?_getD]
    by_cases h1 : q < (nl ls k v).length
    · obtain ⟨i, h2, h3, h4⟩ := nl_mem h1
      rw [List.getElem?_append_left h1, ← List.getD_eq_getElem?_getD]
      exact ⟨i, h2, by omega, h4⟩
    · rw [List.getElem?_append_right (by omega)]
      by_cases h5 : nam (ls.getD k []) v
      · rw [if_pos h5] at h ⊢
        rw [show q - (nl ls k v).length = 0 by simp at h; omega]
        exact ⟨k, rfl, by omega, h5⟩
      · rw [if_neg h5] at h
        simp at h; omega
/-- Numbers of unknowns, the steps that came to them, the unknown that was lowered last. -/
structure Fs where
  x : Nat → Int
  c : Nat → Nat × Nat × Nat × Int
  l : Int
/-- A limit's step from an unknown. -/
def rlx (ls : List (List Int)) (s : Fs) (f i : Nat) : Fs :=
  if (ls.getD i []).getD 1 0 = (f : Int) then s
  else if s.x f + (ls.getD i []).getD 2 0 < s.x ((ls.getD i []).getD 1 0).toNat then
    ⟨updX s.x ((ls.getD i []).getD 1 0).toNat (s.x f + (ls.getD i []).getD 2 0), updX s.c ((ls.getD i []).getD 1 0).toNat (i, f, ((ls.getD i []).getD 1 0).toNat, (ls.getD i []).getD 2 0), (ls.getD i []).getD 1 0⟩
  else s
def rwS (ls : List (List Int)) (s : Fs) (f : Nat) : Nat → Fs
  | 0 => s
  | q + 1 => rlx ls (rwS ls s f q) f ((nl ls ls.length f).getD q 0).toNat
def lwS (ls : List (List Int)) (s : Fs) : Nat → Fs
  | 0 => s
  | v + 1 => if (lwS ls s v).x v = 1000000000 then lwS ls s v else rwS ls (lwS ls s v) v (nl ls ls.length v).length
theorem rws_back {ls : List (List Int)} {s : Fs} {f q i u0 : Nat} {y2 y3 : Int} (hi : (nl ls ls.length f).getD q 0 = (i : Int)) (hx : ls[i]? = some [(u0 : Int), (f : Int), y2, y3]) : rwS ls s f (q + 1) = rwS ls s f q := by
  have e : ls.getD i [] = [(u0 : Int), (f : Int), y2, y3] := by rw [List.getD_eq_getElem?_getD, hx]; rfl
  show rlx ls _ f _ = _
  rw [hi, Int.toNat_natCast]
  unfold rlx
  rw [e]
  exact if_pos rfl
theorem rws_less {ls : List (List Int)} {s : Fs} {f q i u0 u1 : Nat} {y2 y3 : Int} (hi : (nl ls ls.length f).getD q 0 = (i : Int)) (hx : ls[i]? = some [(u0 : Int), (u1 : Int), y2, y3]) (hne : ¬ (u1 : Int) = (f : Int)) (hlt : (rwS ls s f q).x f + y2 < (rwS ls s f q).x u1) : rwS ls s f (q + 1) = ⟨updX (rwS ls s f q).x u1 ((rwS ls s f q).x f + y2), updX (rwS ls s f q).c u1 (i, f, u1, y2), (u1 : Int)⟩ := by
  have e : ls.getD i [] = [(u0 : Int), (u1 : Int), y2, y3] := by rw [List.getD_eq_getElem?_getD, hx]; rfl
  show rlx ls _ f _ = _
  rw [hi, Int.toNat_natCast]
  unfold rlx
  rw [e]
  show (if (u1 : Int) = (f : Int) then _ else if (rwS ls s f q).x f + y2 < (rwS ls s f q).x (u1 : Int).toNat then _ else _) = _
  rw [if_neg hne, Int.toNat_natCast, if_pos hlt]; rfl
theorem rws_more {ls : List (List Int)} {s : Fs} {f q i u0 u1 : Nat} {y2 y3 : Int} (hi : (nl ls ls.length f).getD q 0 = (i : Int)) (hx : ls[i]? = some [(u0 : Int), (u1 : Int), y2, y3]) (hlt : ¬ (rwS ls s f q).x f + y2 < (rwS ls s f q).x u1) : rwS ls s f (q + 1) = rwS ls s f q := by
  have e : ls.getD i [] = [(u0 : Int), (u1 : Int), y2, y3] := by rw [List.getD_eq_getElem?_getD, hx]; rfl
  show rlx ls _ f _ = _
  rw [hi, Int.toNat_natCast]
  unfold rlx
  rw [e]
  show (if (u1 : Int) = (f : Int) then _ else if (rwS ls s f q).x f + y2 < (rwS ls s f q).x (u1 : Int).toNat then _ else _) = _
  rw [Int.toNat_natCast, if_neg hlt]
  split <;> rfl
theorem lws_free {ls : List (List Int)} {s : Fs} {v : Nat} (h : (lwS ls s v).x v = 1000000000) : lwS ls s (v + 1) = lwS ls s v := if_pos h
theorem lws_go {ls : List (List Int)} {s : Fs} {v : Nat} (h : ¬ (lwS ls s v).x v = 1000000000) : lwS ls s (v + 1) = rwS ls (lwS ls s v) v (nl ls ls.length v).length := if_neg h

section
variable {X : FuncId → List Value → St → (Value → St → Bool) → Bool}

end
end Ev
end Go.Proofs.YtcpebhdbpkhhiaaGreat
