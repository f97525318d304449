import Derived.Test.YtcpebhdbpkhhiaaGreatZa09
import Derived.Test.YtcpebhdbpkhhiaaGreatZa07
set_option linter.unusedVariables false
set_option linter.unusedSimpArgs false
/- Regions that draw their order are right. No program here. -/
namespace Go.Proofs.YtcpebhdbpkhhiaaGreat.Ev
open Go Go.RowKit

/-! What looks again -/
section
variable {P : Program} {B : Nat} {ops : Array Oper} {Ti : BT Value} {K0 : Kp} {m0 : Mp} {a0 : Act} {w0 : World} {V : Nat → Value} {T : BT Value} {S : St} {D : List Nat} {E L : Array Bool} {H : Nat → Nat} {z : Prop} {K : Kp} {m : Mp} {w : World} {a : Act} {O : OK}

theorem guard_both {T : BT Value} {g : Option (Nat × Bool)} (h : GuardY T g) (h' : GuardN T g) : False := by
  rcases g with _ | ⟨t, w⟩
  · exact h'
  · obtain ⟨v, h1, h2⟩ := h'
    have h3 : T.get t = some (.bool w) := h
    rw [h1] at h3
    cases h3
    exact h2 rfl
theorem opt_ext {α : Type} {a b : Option α} (h : ∀ v, a = some v ↔ b = some v) : a = b := by
  cases a with
  | none =>
    cases b with
    | none => rfl
    | some v => exact (h v).2 rfl
  | some v => exact ((h v).1 rfl).symm
/-- What stands for an operation that looks, as it looks once more. -/
structure Again (P : Program) (ops : Array Oper) (V : Nat → Value) (Ti T : BT Value) (i : Nat) : Prop where
  reads : ∀ o, ops[i]? = some o → isLook o.op = true → ∀ t ∈ readsT P ops o, ∀ v, T.get t = some v ↔ View ops V Ti (Deps o) t v
  dst : ∀ o d, ops[i]? = some o → o.dst = some d → T.get d = some (V i)
theorem look_of {o : Oper} {x : COp} (h : x = orBad (compOp P o)) (hl : looks x = true) : isLook o.op = true := by
  cases hc : compOp P o with
  | none => rw [hc] at h; subst h; cases hl
  | some c =>
    rw [hc] at h
    subst h
    exact (comp_kind (dst := o.dst) (op := o.op) (ty := o.type) (pos := o.pos) (af := o.after) (gd := o.guard) hc).2.1 hl
theorem Pend.up_l {i : Nat} {x : Item} (hx : compItem P ops i = some x) (hl : looks x.op = false) (h : Pend P ops V Ti S K0 K H False i) : Pend P ops V Ti S K0 K H True i := by
  obtain ⟨x', o, Tj, h1, h2, h3, h4, h5, hT, h6⟩ := h
  rw [hx] at h1; cases h1
  refine ⟨x, o, Tj, hx, h2, h3, h4, h5, hT, ?_⟩
  rcases h6 with ⟨h6, c, h7, h9⟩ | h6
  · refine .inl ⟨h6, c, h7, ?_⟩
    rcases h9 with ⟨h9, h10⟩ | h9
    · refine .inl ⟨h9, fun _ => h10 (fun hc => ?_)⟩
      rw [h4, h7] at hl
      have : looks c = false := hl
      rw [this] at hc
      cases hc
    · exact .inr h9
  · exact .inr h6
theorem Pend.up_n {i : Nat} {x : Item} (hx : compItem P ops i = some x) (hl : looks x.op = true) (hA : Again P ops V Ti T i) (hg : GuardN T x.g) (h : Pend P ops V Ti S K0 K H False i) : Pend P ops V Ti S K0 K H True i := by
  obtain ⟨x', o, Tj, h1, h2, h3, h4, h5, hT, h6⟩ := h
  rw [hx] at h1; cases h1
  refine ⟨x, o, Tj, hx, h2, h3, h4, h5, hT, ?_⟩
  rcases h6 with ⟨h6, _⟩ | h6
  · have he : ∀ t ∈ readsT P ops o, T.get t = Tj.get t := fun t ht => opt_ext (fun v => (hA.reads o h2 (look_of h4 hl) t ht v).trans (hT t ht v).symm)
    exact (guard_both (h6.same (fun t w e => he t (reads_g h5 t w e))) hg).elim
  · exact .inr h6
theorem Pend.up_v {i d : Nat} {x : Item} (hx : compItem P ops i = some x) (hl : looks x.op = true) (hA : Again P ops V Ti T i) (hd : x.d = some d) {u : Value} (hu : T.get d = some u) (hr : ∀ k' : Value → St → Bool, k' u S = true → runOpK P T S x.op k' = true) (h : Pend P ops V Ti S K0 K H False i) : Pend P ops V Ti S K0 K H True i := by
  obtain ⟨x', o, Tj, h1, h2, h3, h4, h5, hT, h6⟩ := h
  rw [hx] at h1; cases h1
  have hlo := look_of h4 hl
  have hTn := hA.reads o h2 hlo
  have he : ∀ t ∈ readsT P ops o, T.get t = Tj.get t := fun t ht => opt_ext (fun v => (hTn t ht v).trans (hT t ht v).symm)
  have := hA.dst o d h2 (by rw [← h3]; exact hd)
  rw [hu] at this
  have hVi : V i = u := (Option.some.inj this).symm
  refine ⟨x, o, T, hx, h2, h3, h4, h5, hTn, ?_⟩
  rcases h6 with ⟨h6, c, h7, h9⟩ | ⟨h6, h7⟩
  · refine .inl ⟨h6.same (fun t w e => he t (reads_g h5 t w e)), c, h7, ?_⟩
    rcases h9 with ⟨h9, h10⟩ | ⟨g, ob, h9, h10, h11, h12⟩
    · refine .inl ⟨h9, fun _ k' hk' => ?_⟩
      rw [hVi] at hk'
      rw [h4, h7] at hr
      exact hr k' hk'
    · refine .inr ⟨g, ob, h9, h10, h11, fun m w ρ hρ => h12 m w ρ (Hρ_same he hρ)⟩
  · exact .inr ⟨h6.same (fun t w e => he t (reads_g h5 t w e)), h7⟩

theorem again_item {i : Nat} {y : Item} (hy : againItem P ops i = some y) {k : BT Value → St → Bool} (hk : itemK P O y T S k = true) (hA : Again P ops V Ti T i) : k T S = true ∧ (Pend P ops V Ti S K0 K H False i → Pend P ops V Ti S K0 K H True i) := by
  unfold againItem at hy
  split at hy
  · rename_i x hx
    unfold againOf at hy
    split at hy
    · rename_i g d a n
      cases hy
      have hk0 : wantsK T g (valK T a (fun a => valK T (.t d) (fun d => againK S n a d (fun _ s => k T s)))) (k T S) = true := hk
      rcases wants_split hk0 with ⟨_, h2⟩ | ⟨h1, h2⟩
      · obtain ⟨va, h3, h4⟩ := valK_inv h2
        obtain ⟨vd, h5, h6⟩ := valK_inv h4
        have h7 : runOpK P T S (.ld a n) (fun v s => ifB (eqV v vd) (k T S) false) = true := valK_of (T := T) h3 h6
        obtain ⟨v, h8, h9⟩ := hands (R := fun s' => S.ext s') (c := .ld a n) rfl (fun _ _ h => h) _ h7
        obtain ⟨h10, h11⟩ := ifB_true h8
        have := eqV_eq _ _ h10
        subst this
        exact ⟨h11, Pend.up_v hx rfl hA rfl h5 (fun k' hk' => h9 T S k' (fun _ _ _ h => h) (fun _ _ h => h) hk')⟩
      · exact ⟨h2, Pend.up_n hx rfl hA h1⟩
    · rename_i g d e size x lo hi mx
      cases hy
      have hk0 : wantsK T g (valK T x (fun x => valOK T lo (fun lo => valOK T hi (fun hi => valOK T mx (fun mx => valK T (.t d) (fun d => slcK S e size x lo hi mx (fun v => ifB (eqV v d) (k T S) false))))))) (k T S) = true := hk
      rcases wants_split hk0 with ⟨_, h2⟩ | ⟨h1, h2⟩
      · obtain ⟨vx, q1, h3⟩ := valK_inv h2
        obtain ⟨vl, q2, h3⟩ := valOK_inv h3
        obtain ⟨vh, q3, h3⟩ := valOK_inv h3
        obtain ⟨vm, q4, h3⟩ := valOK_inv h3
        obtain ⟨vd, h5, h6⟩ := valK_inv h3
        have h7 : runOpK P T S (.slc e size x lo hi mx) (fun v s => ifB (eqV v vd) (k T S) false) = true := valK_of (T := T) q1 (valOK_of q2 (valOK_of q3 (valOK_of q4 h6)))
        obtain ⟨v, h8, h9⟩ := hands (R := fun s' => S.ext s') (c := .slc e size x lo hi mx) rfl (fun _ _ h => h) _ h7
        obtain ⟨h10, h11⟩ := ifB_true h8
        have := eqV_eq _ _ h10
        subst this
        exact ⟨h11, Pend.up_v hx rfl hA rfl h5 (fun k' hk' => h9 T S k' (fun _ _ _ h => h) (fun _ _ h => h) hk')⟩
      · exact ⟨h2, Pend.up_n hx rfl hA h1⟩
    · rename_i g d t x lo hi mx
      cases hy
      have hk0 : wantsK T g (runOpK P T S (.slcn t x lo hi mx) (fun _ s => k T s)) (k T S) = true := hk
      rcases wants_split hk0 with ⟨_, h2⟩ | ⟨h1, h2⟩
      · obtain ⟨v, h8, _⟩ := hands (R := fun s' => S.ext s') (c := .slcn t x lo hi mx) rfl (fun _ _ h => h) _ h2
        exact ⟨h8, Pend.up_l hx rfl⟩
      · exact ⟨h2, Pend.up_l hx rfl⟩
    · cases hy
  · cases hy
theorem again_all : ∀ {ks : List Nat} {ags xs : List Item} {k : BT Value → St → Bool}, agains P ops ks = some ags → itemsK P O (ags ++ xs) T S k = true → (∀ i ∈ ks, Again P ops V Ti T i) → itemsK P O xs T S k = true ∧ ∀ i ∈ ks, Pend P ops V Ti S K0 K H False i → Pend P ops V Ti S K0 K H True i
  | [], ags, xs, k, h, hk, _ => by
    cases h
    exact ⟨hk, fun i hi => by cases hi⟩
  | i :: ks, ags, xs, k, h, hk, hA => by
    simp only [agains] at h
    split at h
    · rename_i y l h1 h2
      cases h
      have hk0 : itemK P O y T S (fun T s => itemsK P O (l ++ xs) T s k) = true := hk
      obtain ⟨h3, h4⟩ := again_item (K0 := K0) (K := K) (H := H) h1 hk0 (hA i (by simp))
      obtain ⟨h5, h6⟩ := again_all h2 h3 (fun j hj => hA j (List.mem_cons_of_mem _ hj))
      exact ⟨h5, fun j hj => by
        rcases List.mem_cons.1 hj with rfl | hj
        · exact h4
        · exact h6 j hj⟩
    · cases h

/-! How many are left -/
def cnt (ops : Array Oper) (L : Array Bool) : Nat := ((List.range ops.size).filter fun i => !L.getD i false).length
theorem filter_lt {p q : Nat → Bool} (h : ∀ i, q i = true → p i = true) {j : Nat} (hp : p j = true) (hq : q j = false) : ∀ {l : List Nat}, j ∈ l → (l.filter q).length < (l.filter p).length := by
  have le : ∀ l : List Nat, (l.filter q).length ≤ (l.filter p).length := by
    intro l
    induction l with
    | nil => exact Nat.le_refl _
    | cons x l ih =>
      simp only [List.filter_cons]
      cases hqx : q x with
      | true => rw [h x hqx]; simpa using ih
      | false =>
        cases hpx : p x with
        | true => simp; omega
        | false => simpa using ih
  intro l
  induction l with
  | nil => intro hj; cases hj
  | cons x l ih =>
    intro hj
    simp only [List.filter_cons]
    rcases List.mem_cons.1 hj with rfl | hj
    · rw [hp, hq]
      have := le l
      simp
      omega
    · have := ih hj
      cases hqx : q x with
      | true => rw [h x hqx]; simpa using this
      | false =>
        cases hpx : p x with
        | true => simp; omega
        | false => simpa using this
theorem cnt_set {L : Array Bool} (hs : L.size = ops.size) {i : Nat} (hi : i < ops.size) (hn : ¬ inL L i) : cnt ops (L.setIfInBounds i true) < cnt ops L := by
  have hset := inL_set (L := L) (i := i) (by omega)
  refine filter_lt (fun j hj => ?_) (j := i) ?_ ?_ (List.mem_range.2 hi)
  · cases hL : L.getD j false with
    | false => rfl
    | true =>
      have := (hset j).2 (.inr hL)
      unfold inL at this
      rw [this] at hj
      cases hj
  · cases hL : L.getD i false with
    | false => rfl
    | true => exact absurd hL hn
  · have := (hset i).2 (.inl rfl)
    unfold inL at this
    rw [this]
    rfl
theorem cnt_zero {L : Array Bool} (h : cnt ops L = 0) {i : Nat} (hi : i < ops.size) : inL L i := by
  unfold cnt at h
  have h1 := List.eq_nil_of_length_eq_zero h
  cases hL : L.getD i false with
  | true => exact hL
  | false =>
    have : i ∈ (List.range ops.size).filter fun i => !L.getD i false := List.mem_filter.2 ⟨List.mem_range.2 hi, by rw [hL]; rfl⟩
    rw [h1] at this
    cases this

/-- All is done in both. -/
theorem Inv.end_ (I : Inv P B ops Ti K0 m0 a0 w0 V T S D E H True L K m w a) (h : ∀ i, i ∈ D → inL L i) {k : BT Value → St → Bool} (hk : k T S = true) : Then P K0 B m0 a0 w0 k a w :=
  ⟨T, S, m, hk, I.le, I.emb.less I.k0, fun t v ht => I.tW t v (by
    rcases (I.tE t v).1 ht with ⟨i, o, h1, h2, h3, h4⟩ | ⟨h1, h2⟩
    · exact .inl ⟨i, o, h i h1, h2, h3, h4⟩
    · exact .inr ⟨fun i o hi => h1 i o (I.sub i hi), h2⟩), I.df, I.bel⟩

/-- The world moves, ags long ags the evaluator waits. -/
theorem world_moves (hU : Uniq P ops) (hO : ∀ K, CallOk P K B O) {r : Option Nat} {n : Nat} {Q : Exit → Act → World → Prop} {k kf : BT Value → St → Bool} (hQ : ∀ a w, Then P K0 B m0 a0 w0 kf a w → Q .normal a w) (hN : Region.ready .any ops E = [] → kf T S = true)
    (hE : ∀ j, j ∈ Region.ready .any ops E → ¬ j ∈ D → ∀ fuel L K m w a, Inv P B ops Ti K0 m0 a0 w0 V T S D E H True L K m w a → j ∈ Region.ready .any ops L → cnt ops (L.setIfInBounds j true) ≤ fuel → wpOpIn (Fr r) n P ops Q j (wpAnyIn (Fr r) n P .any ops Q fuel (L.setIfInBounds j true)) a w) :
    ∀ fuel L K m w a, Inv P B ops Ti K0 m0 a0 w0 V T S D E H True L K m w a → cnt ops L ≤ fuel → wpAnyIn (Fr r) n P .any ops Q fuel L a w := by
  have fin : ∀ L K m w a, Inv P B ops Ti K0 m0 a0 w0 V T S D E H True L K m w a → Region.ready .any ops L = [] → Q .normal a w := by
    intro L K m w a I hr
    have all : ∀ i, i ∈ D → inL L i := by
      intro i hi
      refine Classical.byContradiction fun hn => ?_
      obtain ⟨j, o, h1, h2, h3, h4⟩ := I.ord.first (p := inL L) ⟨i, hi, hn⟩
      have : j ∈ Region.ready .any ops L := mem_ready.2 ⟨getD_true.2 ⟨by rw [I.sl]; exact (Array.getElem?_eq_some_iff.1 h3).1, h2⟩, o, h3, h4⟩
      rw [hr] at this
      cases this
    refine hQ a w (I.end_ all (hN ?_))
    cases he : Region.ready .any ops E with
    | nil => rfl
    | cons j js =>
      have hj : j ∈ Region.ready .any ops E := by rw [he]; simp
      obtain ⟨h0, o, ho, hd⟩ := mem_ready.1 hj
      obtain ⟨hlt, hn⟩ := getD_true.1 h0
      have : j ∈ Region.ready .any ops L := mem_ready.2 ⟨getD_true.2 ⟨by rw [I.sl, ← I.se]; exact hlt, fun h => hn ((I.ed j).2 (I.sub j h))⟩, o, ho, fun e he hb => all _ ((I.ed _).1 (hd e he hb))⟩
      rw [hr] at this
      cases this
  intro fuel
  induction fuel with
  | zero =>
    intro L K m w a I hc
    have hr : Region.ready .any ops L = [] := by
      cases he : Region.ready .any ops L with
      | nil => rfl
      | cons j js =>
        have hj : j ∈ Region.ready .any ops L := by rw [he]; simp
        obtain ⟨h0, o, ho, hd⟩ := mem_ready.1 hj
        exact absurd (cnt_zero (by omega) (Array.getElem?_eq_some_iff.1 ho).1) (getD_true.1 h0).2
    exact ⟨hr, fin L K m w a I hr⟩
  | succ fuel ih =>
    intro L K m w a I hc
    refine ⟨fin L K m w a I, fun i hi => ?_⟩
    obtain ⟨h0, o, ho, hd⟩ := mem_ready.1 hi
    obtain ⟨hlt, hn⟩ := getD_true.1 h0
    have hlt' : i < ops.size := (Array.getElem?_eq_some_iff.1 ho).1
    have hcs := cnt_set (ops := ops) I.sl hlt' hn
    by_cases hD : i ∈ D
    · exact I.pending hU hO hD hi (fun K' m' w' a' I' => ih _ K' m' w' a' I' (by omega))
    · refine hE i (mem_ready.2 ⟨getD_true.2 ⟨by rw [I.se]; exact hlt', fun h => hD ((I.ed i).1 h)⟩, o, ho, fun e he hb => (I.ed _).2 (I.sub _ (hd e he hb))⟩) hD fuel L K m w a I hi (by omega)

theorem pickCalm_inv : ∀ {l : List Nat} {j : Nat}, pickCalm ops l = some j → j ∈ l ∧ ∀ o, ops[j]? = some o → calm o.op = true
  | i :: l, j, h => by
    simp only [pickCalm] at h
    cases ho : ops[i]? with
    | none =>
      simp only [ho] at h
      have h : pickCalm ops l = some j := h
      obtain ⟨h1, h2⟩ := pickCalm_inv (l := l) h
      exact ⟨List.mem_cons_of_mem _ h1, h2⟩
    | some o =>
      simp only [ho] at h
      cases hb : calm o.op with
      | true =>
        rw [hb] at h
        cases h
        refine ⟨by simp, fun o' ho' => ?_⟩
        rw [ho] at ho'
        cases ho'
        exact hb
      | false =>
        rw [hb] at h
        obtain ⟨h1, h2⟩ := pickCalm_inv (l := l) h
        exact ⟨List.mem_cons_of_mem _ h1, h2⟩
theorem itemsOf_cons' {i : Nat} {ks : List Nat} {l : List (Nat × List Nat)} {items : List Item} (h : itemsOf P ops ((i, ks) :: l) = some items) : ∃ x ags xs, items = x :: (ags ++ xs) ∧ compItem P ops i = some x ∧ agains P ops ks = some ags ∧ itemsOf P ops l = some xs := by
  simp only [itemsOf] at h
  split at h
  · rename_i x ags xs h1 h2 h3
    cases h
    exact ⟨x, ags, xs, rfl, h1, h2, h3⟩
  · cases h

/-- What looks, of what was done, is on the list. -/
def Looked (ops : Array Oper) (D lds : List Nat) : Prop := (∀ i ∈ D, ∀ o, ops[i]? = some o → isLook o.op = true → i ∈ lds) ∧ ∀ i ∈ lds, i ∈ D

theorem draw_all (hU : Uniq P ops) (hO : ∀ K, CallOk P K B O) {r : Option Nat} {n : Nat} {Q : Exit → Act → World → Prop} {k : BT Value → St → Bool} (hQ : ∀ a w, Then P K0 B m0 a0 w0 k a w → Q .normal a w) :
    ∀ (fl : Nat) (E : Array Bool) (lds : List Nat) (plan : List (Nat × List Nat)) (items : List Item), sched ops (Region.before ops) fl E lds = some plan → itemsOf P ops plan = some items → ∀ V T S D H, itemsK P O items T S k = true → Looked ops D lds →
      ∀ fuel L K m w a, Inv P B ops Ti K0 m0 a0 w0 V T S D E H True L K m w a → cnt ops L ≤ fuel → wpAnyIn (Fr r) n P .any ops Q fuel L a w := by
  have stop : ∀ (E : Array Bool) (items : List Item), itemsOf P ops [] = some items → Region.ready .any ops E = [] → ∀ V T S D H, itemsK P O items T S k = true →
      ∀ fuel L K m w a, Inv P B ops Ti K0 m0 a0 w0 V T S D E H True L K m w a → cnt ops L ≤ fuel → wpAnyIn (Fr r) n P .any ops Q fuel L a w := by
    intro E items hi he V T S D H hk
    cases hi
    exact world_moves hU hO hQ (k := k) (fun _ => hk) (fun j hj => by rw [he] at hj; cases hj)
  intro fl
  induction fl with
  | zero =>
    intro E lds plan items hs hi V T S D H hk hl
    simp only [sched] at hs
    split at hs
    · rename_i he
      cases hs
      exact stop E items hi he V T S D H hk
    · cases hs
  | succ fl ih =>
    intro E lds plan items hs hi V T S D H hk hl fuel L K m w a I hc
    simp only [sched] at hs
    split at hs
    · rename_i he
      cases hs
      exact stop E items hi he V T S D H hk fuel L K m w a I hc
    · rename_i i rs he
      split at hs
      · rename_i j hp
        split at hs
        · rename_i l hl2
          cases hs
          obtain ⟨x, ags, xs, rfl, hx, ha, hxs⟩ := itemsOf_cons' hi
          cases ha
          obtain ⟨hj, hcalm⟩ := pickCalm_inv hp
          rw [← he] at hj
          have hk0 : itemK P O x T S (fun T s => itemsK P O xs T s k) = true := hk
          obtain ⟨V', T', S', K', H', h1, h2⟩ := I.ahead hU hj hx hcalm hk0
          refine ih _ _ l xs hl2 hxs V' T' S' (j :: D) H' h1 ⟨fun i' hi' o' ho' hlook => ?_, fun i' hi' => ?_⟩ fuel L K' m w a h2 hc
          rcases List.mem_cons.1 hi' with rfl | hi'
          · simp only [ho', hlook]
            exact List.mem_cons_self
          · cases hoj : ops[j]? with
            | none => exact hl.1 i' hi' o' ho' hlook
            | some oj =>
              simp only
              cases isLook oj.op with
              | true => exact List.mem_cons_of_mem _ (hl.1 i' hi' o' ho' hlook)
              | false => exact hl.1 i' hi' o' ho' hlook
          cases hoj : ops[j]? with
          | none =>
            rw [hoj] at hi'
            exact List.mem_cons_of_mem _ (hl.2 i' hi')
          | some oj =>
            rw [hoj] at hi'
            simp only at hi'
            cases hlk : isLook oj.op with
            | true =>
              rw [hlk] at hi'
              rcases List.mem_cons.1 hi' with rfl | hi'
              · exact List.mem_cons_self
              · exact List.mem_cons_of_mem _ (hl.2 i' hi')
            | false =>
              rw [hlk] at hi'
              exact List.mem_cons_of_mem _ (hl.2 i' hi')
        · cases hs
      · rename_i hp
        split at hs
        · split at hs
          · rename_i l hl2
            cases hs
            obtain ⟨x, ags, xs, rfl, hx, ha, hxs⟩ := itemsOf_cons' hi
            have hk0 : itemK P O x T S (fun T s => itemsK P O (ags ++ xs) T s k) = true := hk
            have hcalm : ∀ o, ops[i]? = some o → calm o.op = false := by
              intro o ho
              simp only [pickCalm, ho] at hp
              cases hcc : calm o.op with
              | false => rfl
              | true => rw [hcc] at hp; cases hp
            refine world_moves hU hO hQ (k := k) (fun h => by rw [he] at h; cases h) (fun j hj hjD fuel L K m w a I hr hc => ?_) fuel L K m w a I hc
            rw [he] at hj
            have hji : j = i := by simpa using hj
            subst hji
            refine I.both hU hO hjD hr hx hk0 (fun V' T' S' m' w' a' h1 h2 => ?_)
            have hlD : ∀ i' ∈ D, ∀ o, ops[i']? = some o → ∀ k, Deps o k → k ∈ j :: D := fun i' hi' o ho k hk => List.mem_cons_of_mem _ (I.ord.closed i' o hi' ho k hk)
            obtain ⟨h3, h4⟩ := again_all (V := V') (Ti := Ti) (K0 := K0) (K := K) (H := H) ha h1 (fun i' hi' => ⟨fun o ho hlk t ht v => (h2.tE t v).trans (View.look hU ho (hlD i' (hl.2 i' (List.mem_filter.1 hi').1) o ho) hlk ht), fun o d ho hdst => (h2.tE d (V' i')).2 (.inl ⟨i', o, List.mem_cons_of_mem _ (hl.2 i' (List.mem_filter.1 hi').1), ho, hdst, rfl⟩)⟩)
            have I2 : Inv P B ops Ti K0 m0 a0 w0 V' T' S' (j :: D) (E.setIfInBounds j true) H True (L.setIfInBounds j true) K m' w' a' := by
              refine ⟨h2.se, h2.sl, h2.ed, h2.ord, h2.sub, h2.closed, h2.emb, h2.tE, h2.tW, h2.sz, fun i' hi' hn' => ?_, h2.k0, h2.le, h2.bel, h2.df⟩
              have hp' := h2.pend i' hi' hn'
              obtain ⟨h0, o, ho, hd⟩ := mem_ready.1 hr
              have hlt : j < ops.size := (Array.getElem?_eq_some_iff.1 ho).1
              have hset := inL_set (L := L) (i := j) (by rw [I.sl]; exact hlt)
              have hne : i' ≠ j := fun e => hn' ((hset i').2 (.inl e))
              have hnL : ¬ inL L i' := fun e => hn' ((hset i').2 (.inr e))
              have hiD : i' ∈ D := by
                rcases List.mem_cons.1 hi' with e | e
                · exact absurd e hne
                · exact e
              have hp2 := hp'
              obtain ⟨x', o', Tj, g1, g2, g3, g4, g5, gT, g6⟩ := hp2
              by_cases hlk : looks x'.op = true
              · refine h4 i' (List.mem_filter.2 ⟨hl.1 i' hiD o' g2 ?_, ?_⟩) hp'
                · cases hcc : compOp P o' with
                  | none => rw [g4, hcc] at hlk; cases hlk
                  | some c =>
                    rw [g4, hcc] at hlk
                    exact (comp_kind (dst := o'.dst) (op := o'.op) (ty := o'.type) (pos := o'.pos) (af := o'.after) (gd := o'.guard) hcc).2.1 hlk
                · cases han : anc (Region.before ops) j i' with
                  | false => rfl
                  | true => exact absurd (anc_in I.closed (j + 1) j (Nat.lt_succ_self j) ho (deps_of (p := inL L) hd) han) hnL
              · exact Pend.up_l g1 (by simpa using hlk) hp'
            refine ih _ _ l xs hl2 hxs V' T' S' (j :: D) H h3 ⟨fun i' hi' o' ho' hlook => ?_, fun i' hi' => List.mem_cons_of_mem _ (hl.2 i' hi')⟩ fuel _ K m' w' a' I2 hc
            rcases List.mem_cons.1 hi' with rfl | hi'
            · have := hcalm o' ho'
              revert this hlook
              cases o'.op <;> simp [isLook, calm]
            · exact hl.1 i' hi' o' ho' hlook
          · cases hs
        · cases hs
end

theorem draw_ok {P : Program} {B : Nat} {O : OK} (hO : ∀ K, CallOk P K B O) (K : Kp) : DrawOk P K B O := by
  intro r id ops items T s k hc hk m w a E hT
  unfold compRegion at hc
  simp only at hc
  obtain ⟨h1, h2⟩ := sel_inv hc
  simp only [Bool.and_eq_true] at h1
  split at h2
  · rename_i plan hp
    refine wpIn_region_any h1.2 ?_
    have hn : ∀ i, ¬ inL (Array.replicate ops.size false) i := by
      intro i h
      unfold inL at h
      by_cases hi : i < ops.size
      · simp [hi] at h
      · simp [hi] at h
    have hn0 : ∀ t v, View ops (fun _ => undef) T (inL (Array.replicate ops.size false)) t v → T.get t = some v := by
      rintro t v (⟨i, o, h, _⟩ | ⟨_, h⟩)
      · exact absurd h (hn i)
      · exact h
    refine draw_all (Ti := T) (uniq_of h1.1) hO (K0 := K) (m0 := m) (a0 := a) (w0 := w) (fun a' w' h => ⟨rfl, h⟩) ops.size (Array.replicate ops.size false) [] plan items hp h2 (fun _ => undef) T s [] (fun _ => 0) hk ⟨fun i hi => (by cases hi), fun i hi => (by cases hi)⟩ ops.size (Array.replicate ops.size false) K m { w with drawn := w.drawn + 1 } a ?_ ?_
    · refine ⟨by simp, by simp, fun i => ⟨fun h => absurd h (hn i), fun h => by cases h⟩, trivial, fun i h => absurd h (hn i), fun i o h => absurd h (hn i), ⟨E.low, E.old, E.obj, E.inj, E.base, E.kept⟩, fun t v => ⟨fun h => .inr ⟨fun i o hi => (by cases hi), h⟩, ?_⟩, fun t v ht => hT t v (hn0 t v ht), fun t v ht => ?_, fun i hi => (by cases hi), fun j o h => h, Mp.le_refl m, ⟨rfl, rfl, rfl, Nat.le_refl _, fun _ _ => rfl⟩, rfl⟩
      · rintro (⟨i, o, h, _⟩ | ⟨_, h⟩)
        · cases h
        · exact h
      · obtain ⟨u, hu, _⟩ := hT t v ht
        exact (Array.getElem?_eq_some_iff.1 hu).1
    · unfold cnt
      refine Nat.le_trans (List.length_filter_le _ _) ?_
      simp
  · cases h2
end Go.Proofs.YtcpebhdbpkhhiaaGreat.Ev

/- What the evaluator says of a function without parameters, the program does in every world. No program here. -/
namespace Go.Proofs.YtcpebhdbpkhhiaaGreat.Ev
open Go Go.RowKit

/-- A table says what compF says; entry n stands for function a + d n. -/
def Holds (P : Program) : BT (Option CF) → Nat → Nat → Prop
  | .leaf, _, _ => True
  | .node o l r, a, d => (o = none ∨ compF P a = o) ∧ Holds P l (a + d) (2 * d) ∧ Holds P r (a + 2 * d) (2 * d)
theorem holds_get {P : Program} {c : CF} : ∀ {t : BT (Option CF)} {a d n : Nat}, Holds P t a d → t.get n = some (some c) → compF P (a + d * n) = some c
  | .leaf, a, d, n, _, h => by cases h
  | .node o l r, a, d, n, ⟨h1, h2, h3⟩, h => by
    simp only [BT.get] at h
    by_cases h0 : n = 0
    · subst h0
      rw [if_pos rfl] at h
      cases h
      rcases h1 with h1 | h1
      · cases h1
      · simpa using h1
    · rw [if_neg h0] at h
      by_cases hp : n % 2 = 1
      · rw [if_pos hp] at h
        have := holds_get h2 h
        have e : a + d + 2 * d * (n / 2) = a + d * n := by
          have : n = 2 * (n / 2) + 1 := by omega
          conv => rhs; rw [this]
          rw [Nat.mul_add, ← Nat.mul_assoc, Nat.mul_comm d 2]
          omega
        rw [← e]
        exact this
      · rw [if_neg hp] at h
        have := holds_get h3 h
        have e : a + 2 * d + 2 * d * (n / 2 - 1) = a + d * n := by
          have : n = 2 * (n / 2 - 1) + 2 := by omega
          conv => rhs; rw [this]
          rw [Nat.mul_add, ← Nat.mul_assoc, Nat.mul_comm d 2]
          omega
        rw [← e]
        exact this
theorem tab_ok {P : Program} {t : BT (Option CF)} (h : Holds P t 0 1) (f : Nat) (k : CF → Bool) (hk : tabK t f k = true) : ∃ c, compF P f = some c ∧ k c = true := by
  obtain ⟨o, ho, hk1⟩ := getK_inv (k := fun o => @Option.rec CF (fun _ => Bool) false k o) hk
  cases o with
  | none => cases hk1
  | some c => exact ⟨c, by simpa using holds_get h ho, hk1⟩

theorem emb_start (P : Program) (w : World) : Emb P (fun _ => none) w.heap.size (fun _ => none) ⟨.leaf, 0⟩ w :=
  ⟨fun _ _ _ h => (by cases h), fun _ _ h => (by cases h), fun _ _ _ _ h => (by cases h), fun _ _ _ _ _ h => (by cases h), Nat.le_refl _, fun _ _ h => (by cases h)⟩
theorem yes_ok {P : Program} {t : BT (Option CF)} (h : Holds P t 0 1) {n : Nat} {f : FuncId} (hk : yesK P t n f = true) (w : World) :
    Calls P f #[] w (fun e w' => e = .returned (.bool true) ∧ Below w.heap.size w w') := by
  have hk0 : (oracK P (tabK t) n).call f [] ⟨.leaf, 0⟩ (fun v _ => trueK v) = true := hk
  obtain ⟨_, hcall⟩ := ((level (B := w.heap.size) (tab_ok h) (fun O hO K => draw_ok hO K) n) (fun _ => none)).2.call hk0 (us := []) (emb_start P w) (by simp only [LR])
  refine (callsIn_wide (n := 0)).1 (CallsIn.mono hcall (fun e w' he => ?_))
  cases e with
  | returned u =>
    obtain ⟨v, s', m', h1, _, _, h4, h5⟩ := he
    obtain ⟨b, rfl, h2⟩ := onBool_inv (k := fun b => b) h1
    have hb : b = true := h2
    subst hb
    have : u = .bool true := by simpa only [VR] using h5
    exact ⟨by rw [this], h4⟩
  | panicked => exact he.elim
  | outgrown => exact he.elim
/-! Short words for turned code. -/
section
variable (d : Nat) (o : COp)
abbrev iM (s : Nat) : Item := ⟨none, some d, .mov (.t s)⟩
abbrev iO : Item := ⟨none, some d, o⟩
abbrev iN : Item := ⟨none, none, o⟩
abbrev vZ : X := .c (.int .i64 (.ofNat d))
abbrev vM : X := .c (.int .i64 (.negSucc d))
abbrev vF : X := .c (.func (.func d) ⟨[]⟩ ⟨[]⟩)
abbrev iC (f : Nat) (l : List X) : Item := ⟨none, some d, .call (.c (.func (.func f) ⟨[]⟩ ⟨[]⟩)) l⟩
abbrev vI (z : Int) : X := .c (.int .i64 z)
abbrev y0 : Value := .int .i64 0
abbrev vt : X := .c (.bool true)
abbrev vf : X := .c (.bool false)
abbrev vn : X := .c (.slice none 0 0)
abbrev z0 : Value := .int .i64 (.ofNat 0)
abbrev cS (l : List Item) (c : CC) : CC := .seq (.items l) c
abbrev t0 : X := .t 0
abbrev t1 : X := .t 1
abbrev t2 : X := .t 2
abbrev t3 : X := .t 3
abbrev t4 : X := .t 4
abbrev t5 : X := .t 5
abbrev t6 : X := .t 6
abbrev t7 : X := .t 7
abbrev t8 : X := .t 8
abbrev t9 : X := .t 9
abbrev t10 : X := .t 10
abbrev t11 : X := .t 11
abbrev t12 : X := .t 12
abbrev t13 : X := .t 13
abbrev t14 : X := .t 14
abbrev t15 : X := .t 15
abbrev t16 : X := .t 16
abbrev t17 : X := .t 17
abbrev t18 : X := .t 18
abbrev t19 : X := .t 19
abbrev t20 : X := .t 20
abbrev t21 : X := .t 21
abbrev t22 : X := .t 22
abbrev t23 : X := .t 23
abbrev t24 : X := .t 24
abbrev t25 : X := .t 25
abbrev t26 : X := .t 26
abbrev t27 : X := .t 27
abbrev t28 : X := .t 28
abbrev t29 : X := .t 29
abbrev t30 : X := .t 30
abbrev t31 : X := .t 31
abbrev t32 : X := .t 32
abbrev t33 : X := .t 33
abbrev t34 : X := .t 34
abbrev t35 : X := .t 35
abbrev t36 : X := .t 36
abbrev t37 : X := .t 37
abbrev t38 : X := .t 38
abbrev t39 : X := .t 39
abbrev t40 : X := .t 40
abbrev t41 : X := .t 41
abbrev t42 : X := .t 42
abbrev t43 : X := .t 43
abbrev t44 : X := .t 44
abbrev t45 : X := .t 45
abbrev t46 : X := .t 46
abbrev t47 : X := .t 47
abbrev t48 : X := .t 48
abbrev t49 : X := .t 49
abbrev t50 : X := .t 50
abbrev t51 : X := .t 51
abbrev t52 : X := .t 52
abbrev t53 : X := .t 53
abbrev t54 : X := .t 54
abbrev t55 : X := .t 55
abbrev t56 : X := .t 56
abbrev t57 : X := .t 57
abbrev t58 : X := .t 58
abbrev t59 : X := .t 59
abbrev t60 : X := .t 60
abbrev t61 : X := .t 61
abbrev t62 : X := .t 62
abbrev t63 : X := .t 63
abbrev t64 : X := .t 64
abbrev t65 : X := .t 65
abbrev t66 : X := .t 66
abbrev t67 : X := .t 67
abbrev t68 : X := .t 68
abbrev t69 : X := .t 69
abbrev t70 : X := .t 70
abbrev t71 : X := .t 71
abbrev t72 : X := .t 72
abbrev t73 : X := .t 73
abbrev t74 : X := .t 74
abbrev t75 : X := .t 75
abbrev t76 : X := .t 76
abbrev t77 : X := .t 77
abbrev t78 : X := .t 78
abbrev t79 : X := .t 79
abbrev t80 : X := .t 80
abbrev t81 : X := .t 81
abbrev t82 : X := .t 82
abbrev t83 : X := .t 83
abbrev t84 : X := .t 84
abbrev t85 : X := .t 85
abbrev t86 : X := .t 86
abbrev t87 : X := .t 87
abbrev t88 : X := .t 88
abbrev t89 : X := .t 89
abbrev t90 : X := .t 90
abbrev t91 : X := .t 91
abbrev t92 : X := .t 92
abbrev t93 : X := .t 93
abbrev t94 : X := .t 94
abbrev t95 : X := .t 95
abbrev t96 : X := .t 96
abbrev t97 : X := .t 97
abbrev t98 : X := .t 98
abbrev t99 : X := .t 99
abbrev t100 : X := .t 100
abbrev t101 : X := .t 101
abbrev t102 : X := .t 102
abbrev t103 : X := .t 103
abbrev t104 : X := .t 104
abbrev t105 : X := .t 105
abbrev t106 : X := .t 106
abbrev t107 : X := .t 107
abbrev t108 : X := .t 108
abbrev t109 : X := .t 109
abbrev t110 : X := .t 110
abbrev t111 : X := .t 111
abbrev t112 : X := .t 112
abbrev t113 : X := .t 113
abbrev t114 : X := .t 114
abbrev t115 : X := .t 115
abbrev t116 : X := .t 116
abbrev t117 : X := .t 117
abbrev t118 : X := .t 118
abbrev t119 : X := .t 119
abbrev t120 : X := .t 120
abbrev t121 : X := .t 121
abbrev t122 : X := .t 122
abbrev t123 : X := .t 123
abbrev t124 : X := .t 124
abbrev t125 : X := .t 125
abbrev t126 : X := .t 126
abbrev t127 : X := .t 127
abbrev t128 : X := .t 128
abbrev t129 : X := .t 129
abbrev t130 : X := .t 130
abbrev t131 : X := .t 131
abbrev t132 : X := .t 132
abbrev t133 : X := .t 133
abbrev t134 : X := .t 134
abbrev t135 : X := .t 135
abbrev t136 : X := .t 136
abbrev t137 : X := .t 137
abbrev t138 : X := .t 138
abbrev t139 : X := .t 139
abbrev t140 : X := .t 140
abbrev t141 : X := .t 141
abbrev t142 : X := .t 142
abbrev t143 : X := .t 143
abbrev t144 : X := .t 144
abbrev t145 : X := .t 145
abbrev t146 : X := .t 146
abbrev t147 : X := .t 147
abbrev t148 : X := .t 148
abbrev t149 : X := .t 149
abbrev t150 : X := .t 150
abbrev t151 : X := .t 151
abbrev t152 : X := .t 152
abbrev t153 : X := .t 153
abbrev t154 : X := .t 154
abbrev t155 : X := .t 155
abbrev t156 : X := .t 156
abbrev t157 : X := .t 157
abbrev t158 : X := .t 158
abbrev t159 : X := .t 159
end
end Go.Proofs.YtcpebhdbpkhhiaaGreat.Ev
