import Derived.Test.YtoeklhdklcpllaaZc05
import Derived.Test.YtoeklhdklcpllaaZc04
import Derived.IntWalk
set_option linter.unusedVariables false
set_option linter.unusedSimpArgs false
namespace Go.Proofs.Ytoeklhdklcpllaa.Ev
open Go Go.RowKit
/-! What looks again -/
section
variable {P : Program} {B : Nat} {ops : Array Oper} {Ti : BT Value} {K0 : Kp} {m0 : Mp} {a0 : Act} {w0 : World} {V : Nat -> Value} {T : BT Value} {S : St} {D : List Nat} {E L : Array Bool} {H : Nat -> Nat} {z : Prop} {K : Kp} {m : Mp} {w : World} {a : Act} {O : OK}
theorem guard_both {T : BT Value} {g : Option (Nat × Bool)} (h : GuardY T g) (h' : GuardN T g) : False := by
 rcases g with _ | ⟨t, w⟩
 ·exact h'
 ·obtain ⟨v, h1, h2⟩ := h'
  have h3 : T.get t = some (.bool w) := h;rw [h1] at h3;cases h3;exact h2 rfl
theorem opt_ext {α : Type} {a b : Option α} (h : ∀ v, a = some v ↔ b = some v) : a = b := by
 cases a with
 | none =>
  cases b with
  | none => rfl
  | some v => exact (h v).2 rfl
 | some v => exact ((h v).1 rfl).symm
structure Again (P : Program) (ops : Array Oper) (V : Nat -> Value) (Ti T : BT Value) (i : Nat) : Prop where
 reads : ∀ o, ops[i]? = some o -> isLook o.op = true -> ∀ t ∈ readsT P ops o, ∀ v, T.get t = some v ↔ View ops V Ti (Deps o) t v
 dst : ∀ o d, ops[i]? = some o -> o.dst = some d -> T.get d = some (V i)
theorem look_of {o : Oper} {x : COp} (h : x = orBad (compOp P o)) (hl : looks x = true) : isLook o.op = true := by
 cases hc : compOp P o with
 | none => rw [hc] at h; subst h; cases hl
 | some c =>
  rw [hc] at h;subst h;exact (comp_kind (dst := o.dst) (op := o.op) (ty := o.type) (pos := o.pos) (af := o.after) (gd := o.guard) hc).2.1 hl
theorem Pend.up_l {i : Nat} {x : Item} (hx : compItem P ops i = some x) (hl : looks x.op = false) (h : Pend P ops V Ti S K0 K H False i) : Pend P ops V Ti S K0 K H True i := by
 obtain ⟨x', o, Tj, h1, h2, h3, h4, h5, hT, h6⟩ := h;rw [hx] at h1; cases h1;refine ⟨x, o, Tj, hx, h2, h3, h4, h5, hT, ?_⟩;rcases h6 with ⟨h6, c, h7, h9⟩ | h6
 ·refine .inl ⟨h6, c, h7, ?_⟩
  rcases h9 with ⟨h9, h10⟩ | h9
  ·refine .inl ⟨h9, fun _ => h10 (fun hc => ?_)⟩
   rw [h4, h7] at hl;have : looks c = false := hl;rw [this] at hc;cases hc
  ·exact .inr h9
 ·exact .inr h6
theorem Pend.up_n {i : Nat} {x : Item} (hx : compItem P ops i = some x) (hl : looks x.op = true) (hA : Again P ops V Ti T i) (hg : GuardN T x.g) (h : Pend P ops V Ti S K0 K H False i) : Pend P ops V Ti S K0 K H True i := by
 obtain ⟨x', o, Tj, h1, h2, h3, h4, h5, hT, h6⟩ := h;rw [hx] at h1; cases h1;refine ⟨x, o, Tj, hx, h2, h3, h4, h5, hT, ?_⟩;rcases h6 with ⟨h6, _⟩ | h6
 ·have he : ∀ t ∈ readsT P ops o, T.get t = Tj.get t := fun t ht => opt_ext (fun v => (hA.reads o h2 (look_of h4 hl) t ht v).trans (hT t ht v).symm)
  exact (guard_both (h6.same (fun t w e => he t (reads_g h5 t w e))) hg).elim
 ·exact .inr h6
theorem Pend.up_v {i d : Nat} {x : Item} (hx : compItem P ops i = some x) (hl : looks x.op = true) (hA : Again P ops V Ti T i) (hd : x.d = some d) {u : Value} (hu : T.get d = some u) (hr : ∀ k' : Value -> St -> Bool, k' u S = true -> U7 P T S x.op k' = true) (h : Pend P ops V Ti S K0 K H False i) : Pend P ops V Ti S K0 K H True i := by
 obtain ⟨x', o, Tj, h1, h2, h3, h4, h5, hT, h6⟩ := h;rw [hx] at h1; cases h1;have hlo := look_of h4 hl;have hTn := hA.reads o h2 hlo;have he : ∀ t ∈ readsT P ops o, T.get t = Tj.get t := fun t ht => opt_ext (fun v => (hTn t ht v).trans (hT t ht v).symm)
 have := hA.dst o d h2 (by rw [<- h3]; exact hd);rw [hu] at this;have hVi : V i = u := (Option.some.inj this).symm;refine ⟨x, o, T, hx, h2, h3, h4, h5, hTn, ?_⟩;rcases h6 with ⟨h6, c, h7, h9⟩ | ⟨h6, h7⟩
 ·refine .inl ⟨h6.same (fun t w e => he t (reads_g h5 t w e)), c, h7, ?_⟩
  rcases h9 with ⟨h9, h10⟩ | ⟨g, ob, h9, h10, h11, h12⟩
  ·refine .inl ⟨h9, fun _ k' hk' => ?_⟩
   rw [hVi] at hk';rw [h4, h7] at hr;exact hr k' hk'
  ·refine .inr ⟨g, ob, h9, h10, h11, fun m w ρ hρ => h12 m w ρ (Hρ_same he hρ)⟩
 ·exact .inr ⟨h6.same (fun t w e => he t (reads_g h5 t w e)), h7⟩
theorem again_item {i : Nat} {y : Item} (hy : againItem P ops i = some y) {k : BT Value -> St -> Bool} (hk : itemK P O y T S k = true) (hA : Again P ops V Ti T i) : k T S = true /\ (Pend P ops V Ti S K0 K H False i -> Pend P ops V Ti S K0 K H True i) := by
 unfold againItem at hy;split at hy
 ·rename_i x hx
  unfold againOf at hy;split at hy
  ·rename_i g d a n
   cases hy;have hk0 : wantsK T g (valK T a (fun a => valK T (.t d) (fun d => againK S n a d (fun _ s => k T s)))) (k T S) = true := hk;rcases wants_split hk0 with ⟨_, h2⟩ | ⟨h1, h2⟩
   ·obtain ⟨va, h3, h4⟩ := Z4 h2
    obtain ⟨vd, h5, h6⟩ := Z4 h4;have h7 : U7 P T S (.ld a n) (fun v s => ifB (eqV v vd) (k T S) false) = true := valK_of (T := T) h3 h6;obtain ⟨v, h8, h9⟩ := hands (R := fun s' => S.ext s') (c := .ld a n) J (fun _ _ h => h) _ h7;obtain ⟨h10, h11⟩ := W6 h8;have := eqV_eq _ _ h10;subst this;exact ⟨h11, Pend.up_v hx rfl hA rfl h5 (fun k' hk' => h9 T S k' (fun _ _ _ h => h) (fun _ _ h => h) hk')⟩
   ·exact ⟨h2, Pend.up_n hx rfl hA h1⟩
  ·rename_i g d e size x lo hi mx
   cases hy;have hk0 : wantsK T g (valK T x (fun x => valOK T lo (fun lo => valOK T hi (fun hi => valOK T mx (fun mx => valK T (.t d) (fun d => slcK S e size x lo hi mx (fun v => ifB (eqV v d) (k T S) false))))))) (k T S) = true := hk;rcases wants_split hk0 with ⟨_, h2⟩ | ⟨h1, h2⟩
   ·obtain ⟨vx, q1, h3⟩ := Z4 h2
    obtain ⟨vl, q2, h3⟩ := valOK_inv h3;obtain ⟨vh, q3, h3⟩ := valOK_inv h3;obtain ⟨vm, q4, h3⟩ := valOK_inv h3;obtain ⟨vd, h5, h6⟩ := Z4 h3;have h7 : U7 P T S (.slc e size x lo hi mx) (fun v s => ifB (eqV v vd) (k T S) false) = true := valK_of (T := T) q1 (valOK_of q2 (valOK_of q3 (valOK_of q4 h6)));obtain ⟨v, h8, h9⟩ := hands (R := fun s' => S.ext s') (c := .slc e size x lo hi mx) J (fun _ _ h => h) _ h7;obtain ⟨h10, h11⟩ := W6 h8;have := eqV_eq _ _ h10;subst this;exact ⟨h11, Pend.up_v hx rfl hA rfl h5 (fun k' hk' => h9 T S k' (fun _ _ _ h => h) (fun _ _ h => h) hk')⟩
   ·exact ⟨h2, Pend.up_n hx rfl hA h1⟩
  ·rename_i g d t x lo hi mx
   cases hy;have hk0 : wantsK T g (U7 P T S (.slcn t x lo hi mx) (fun _ s => k T s)) (k T S) = true := hk;rcases wants_split hk0 with ⟨_, h2⟩ | ⟨h1, h2⟩
   ·obtain ⟨v, h8, _⟩ := hands (R := fun s' => S.ext s') (c := .slcn t x lo hi mx) J (fun _ _ h => h) _ h2
    exact ⟨h8, Pend.up_l hx rfl⟩
   ·exact ⟨h2, Pend.up_l hx rfl⟩
  ·cases hy
 ·cases hy
theorem again_all : ∀ {ks : List Nat} {ags xs : List Item} {k : BT Value -> St -> Bool}, agains P ops ks = some ags -> itemsK P O (ags ++ xs) T S k = true -> (∀ i ∈ ks, Again P ops V Ti T i) -> itemsK P O xs T S k = true /\ ∀ i ∈ ks, Pend P ops V Ti S K0 K H False i -> Pend P ops V Ti S K0 K H True i
 | [], ags, xs, k, h, hk, _ => by
  cases h;exact ⟨hk, fun i hi => by cases hi⟩
 | i :: ks, ags, xs, k, h, hk, hA => by
  simp only [agains] at h;split at h
  ·rename_i y l h1 h2
   cases h;have hk0 : itemK P O y T S (fun T s => itemsK P O (l ++ xs) T s k) = true := hk;obtain ⟨h3, h4⟩ := again_item (K0 := K0) (K := K) (H := H) h1 hk0 (hA i (by simp));obtain ⟨h5, h6⟩ := again_all h2 h3 (fun j hj => hA j (List.mem_cons_of_mem _ hj));exact ⟨h5, fun j hj => by
    rcases List.mem_cons.1 hj with rfl | hj
    ·exact h4
    ·exact h6 j hj⟩
  ·cases h
/-! How many are left -/
def cnt (ops : Array Oper) (L : Array Bool) : Nat := ((List.range ops.size).filter fun i => !L.getD i false).length
theorem filter_lt {p q : Nat -> Bool} (h : ∀ i, q i = true -> p i = true) {j : Nat} (hp : p j = true) (hq : q j = false) : ∀ {l : List Nat}, j ∈ l -> (l.filter q).length < (l.filter p).length := by
 have le : ∀ l : List Nat, (l.filter q).length <= (l.filter p).length := by
  intro l
  induction l with
  | nil => exact Nat.le_refl _
  | cons x l ih =>
   simp only [List.filter_cons];cases hqx : q x with
   | true => rw [h x hqx]; simpa using ih
   | false =>
    cases hpx : p x with
    | true => simp; omega
    | false => simpa using ih
 intro l
 induction l with
 | nil => intro hj; cases hj
 | cons x l ih =>
  intro hj;simp only [List.filter_cons];rcases List.mem_cons.1 hj with rfl | hj
  ·rw [hp, hq]
   have := le l;simp;omega
  ·have := ih hj
   cases hqx : q x with
   | true => rw [h x hqx]; simpa using this
   | false =>
    cases hpx : p x with
    | true => simp; omega
    | false => simpa using this
theorem cnt_set {L : Array Bool} (hs : L.size = ops.size) {i : Nat} (hi : i < ops.size) (hn : ¬ inL L i) : cnt ops (L.setIfInBounds i true) < cnt ops L := by
 have hset := inL_set (L := L) (i := i) (by omega);refine filter_lt (fun j hj => ?_) (j := i) ?_ ?_ (List.mem_range.2 hi)
 ·cases hL : L.getD j false with
  | false => rfl
  | true =>
   have := (hset j).2 (.inr hL);unfold inL at this;rw [this] at hj;cases hj
 ·cases hL : L.getD i false with
  | false => rfl
  | true => exact absurd hL hn
 ·have := (hset i).2 (.inl rfl)
  unfold inL at this;rw [this];rfl
theorem cnt_zero {L : Array Bool} (h : cnt ops L = 0) {i : Nat} (hi : i < ops.size) : inL L i := by
 unfold cnt at h;have h1 := List.eq_nil_of_length_eq_zero h;cases hL : L.getD i false with
 | true => exact hL
 | false =>
  have : i ∈ (List.range ops.size).filter fun i => !L.getD i false := List.mem_filter.2 ⟨List.mem_range.2 hi, by rw [hL]; rfl⟩
  rw [h1] at this;cases this
theorem Inv.end_ (I : Inv P B ops Ti K0 m0 a0 w0 V T S D E H True L K m w a) (h : ∀ i, i ∈ D -> inL L i) {k : BT Value -> St -> Bool} (hk : k T S = true) : Then P K0 B m0 a0 w0 k a w :=
 ⟨T, S, m, hk, I.le, I.emb.less I.k0, fun t v ht => I.tW t v (by
  rcases (I.tE t v).1 ht with ⟨i, o, h1, h2, h3, h4⟩ | ⟨h1, h2⟩
  ·exact .inl ⟨i, o, h i h1, h2, h3, h4⟩
  ·exact .inr ⟨fun i o hi => h1 i o (I.sub i hi), h2⟩), I.df, I.bel⟩
theorem world_moves (hU : Uniq P ops) (hO : ∀ K, CallOk P K B O) {r : Option Nat} {n : Nat} {Q : Exit -> Act -> World -> Prop} {k kf : BT Value -> St -> Bool} (hQ : ∀ a w, Then P K0 B m0 a0 w0 kf a w -> Q .normal a w) (hN : Region.ready .any ops E = [] -> kf T S = true)
 (hE : ∀ j, j ∈ Region.ready .any ops E -> ¬ j ∈ D -> ∀ fuel L K m w a, Inv P B ops Ti K0 m0 a0 w0 V T S D E H True L K m w a -> j ∈ Region.ready .any ops L -> cnt ops (L.setIfInBounds j true) <= fuel -> wpOpIn (Fr r) n P ops Q j (wpAnyIn (Fr r) n P .any ops Q fuel (L.setIfInBounds j true)) a w) :
 ∀ fuel L K m w a, Inv P B ops Ti K0 m0 a0 w0 V T S D E H True L K m w a -> cnt ops L <= fuel -> wpAnyIn (Fr r) n P .any ops Q fuel L a w := by
 have fin : ∀ L K m w a, Inv P B ops Ti K0 m0 a0 w0 V T S D E H True L K m w a -> Region.ready .any ops L = [] -> Q .normal a w := by
  intro L K m w a I hr;have all : ∀ i, i ∈ D -> inL L i := by
   intro i hi;refine Classical.byContradiction fun hn => ?_
   obtain ⟨j, o, h1, h2, h3, h4⟩ := I.ord.first (p := inL L) ⟨i, hi, hn⟩
   have : j ∈ Region.ready .any ops L := mem_ready.2 ⟨getD_true.2 ⟨by rw [I.sl]; exact (Array.getElem?_eq_some_iff.1 h3).1, h2⟩, o, h3, h4⟩;rw [hr] at this;cases this
  refine hQ a w (I.end_ all (hN ?_));cases he : Region.ready .any ops E with
  | nil => rfl
  | cons j js =>
   have hj : j ∈ Region.ready .any ops E := by rw [he]; simp
   obtain ⟨h0, o, ho, hd⟩ := mem_ready.1 hj;obtain ⟨hlt, hn⟩ := getD_true.1 h0;have : j ∈ Region.ready .any ops L := mem_ready.2 ⟨getD_true.2 ⟨by rw [I.sl, <- I.se]; exact hlt, fun h => hn ((I.ed j).2 (I.sub j h))⟩, o, ho, fun e he hb => all _ ((I.ed _).1 (hd e he hb))⟩;rw [hr] at this;cases this
 intro fuel
 induction fuel with
 | zero =>
  intro L K m w a I hc;have hr : Region.ready .any ops L = [] := by
   cases he : Region.ready .any ops L with
   | nil => rfl
   | cons j js =>
    have hj : j ∈ Region.ready .any ops L := by rw [he]; simp
    obtain ⟨h0, o, ho, hd⟩ := mem_ready.1 hj;exact absurd (cnt_zero (by omega) (Array.getElem?_eq_some_iff.1 ho).1) (getD_true.1 h0).2
  exact ⟨hr, fin L K m w a I hr⟩
 | succ fuel ih =>
  intro L K m w a I hc;refine ⟨fin L K m w a I, fun i hi => ?_⟩;obtain ⟨h0, o, ho, hd⟩ := mem_ready.1 hi;obtain ⟨hlt, hn⟩ := getD_true.1 h0;have hlt' : i < ops.size := (Array.getElem?_eq_some_iff.1 ho).1;have hcs := cnt_set (ops := ops) I.sl hlt' hn;by_cases hD : i ∈ D
  ·exact I.pending hU hO hD hi (fun K' m' w' a' I' => ih _ K' m' w' a' I' (by omega))
  ·refine hE i (mem_ready.2 ⟨getD_true.2 ⟨by rw [I.se]; exact hlt', fun h => hD ((I.ed i).1 h)⟩, o, ho, fun e he hb => (I.ed _).2 (I.sub _ (hd e he hb))⟩) hD fuel L K m w a I hi (by omega)
theorem pickCalm_inv : ∀ {l : List Nat} {j : Nat}, pickCalm ops l = some j -> j ∈ l /\ ∀ o, ops[j]? = some o -> calm o.op = true
 | i :: l, j, h => by
  simp only [pickCalm] at h;cases ho : ops[i]? with
  | none =>
   simp only [ho] at h;have h : pickCalm ops l = some j := h;obtain ⟨h1, h2⟩ := pickCalm_inv (l := l) h;exact ⟨List.mem_cons_of_mem _ h1, h2⟩
  | some o =>
   simp only [ho] at h;cases hb : calm o.op with
   | true =>
    rw [hb] at h;cases h;refine ⟨by simp, fun o' ho' => ?_⟩;rw [ho] at ho';cases ho';exact hb
   | false =>
    rw [hb] at h;obtain ⟨h1, h2⟩ := pickCalm_inv (l := l) h;exact ⟨List.mem_cons_of_mem _ h1, h2⟩
theorem itemsOf_cons' {i : Nat} {ks : List Nat} {l : List (Nat × List Nat)} {items : List Item} (h : itemsOf P ops ((i, ks) :: l) = some items) : ∃ x ags xs, items = x :: (ags ++ xs) /\ compItem P ops i = some x /\ agains P ops ks = some ags /\ itemsOf P ops l = some xs := by
 simp only [itemsOf] at h;split at h
 ·rename_i x ags xs h1 h2 h3
  cases h;exact ⟨x, ags, xs, rfl, h1, h2, h3⟩
 ·cases h
def Looked (ops : Array Oper) (D lds : List Nat) : Prop := (∀ i ∈ D, ∀ o, ops[i]? = some o -> isLook o.op = true -> i ∈ lds) /\ ∀ i ∈ lds, i ∈ D
theorem draw_all (hU : Uniq P ops) (hO : ∀ K, CallOk P K B O) {r : Option Nat} {n : Nat} {Q : Exit -> Act -> World -> Prop} {k : BT Value -> St -> Bool} (hQ : ∀ a w, Then P K0 B m0 a0 w0 k a w -> Q .normal a w) :
 ∀ (fl : Nat) (E : Array Bool) (lds : List Nat) (plan : List (Nat × List Nat)) (items : List Item), sched ops (Region.before ops) fl E lds = some plan -> itemsOf P ops plan = some items -> ∀ V T S D H, itemsK P O items T S k = true -> Looked ops D lds ->
  ∀ fuel L K m w a, Inv P B ops Ti K0 m0 a0 w0 V T S D E H True L K m w a -> cnt ops L <= fuel -> wpAnyIn (Fr r) n P .any ops Q fuel L a w := by
 have stop : ∀ (E : Array Bool) (items : List Item), itemsOf P ops [] = some items -> Region.ready .any ops E = [] -> ∀ V T S D H, itemsK P O items T S k = true ->
  ∀ fuel L K m w a, Inv P B ops Ti K0 m0 a0 w0 V T S D E H True L K m w a -> cnt ops L <= fuel -> wpAnyIn (Fr r) n P .any ops Q fuel L a w := by
  intro E items hi he V T S D H hk;cases hi;exact world_moves hU hO hQ (k := k) (fun _ => hk) (fun j hj => by rw [he] at hj; cases hj)
 intro fl
 induction fl with
 | zero =>
  intro E lds plan items hs hi V T S D H hk hl;simp only [sched] at hs;split at hs
  ·rename_i he
   cases hs;exact stop E items hi he V T S D H hk
  ·cases hs
 | succ fl ih =>
  intro E lds plan items hs hi V T S D H hk hl fuel L K m w a I hc;simp only [sched] at hs;split at hs
  ·rename_i he
   cases hs;exact stop E items hi he V T S D H hk fuel L K m w a I hc
  ·rename_i i rs he
   split at hs
   ·rename_i j hp
    split at hs
    ·rename_i l hl2
     cases hs;obtain ⟨x, ags, xs, rfl, hx, ha, hxs⟩ := itemsOf_cons' hi;cases ha;obtain ⟨hj, hcalm⟩ := pickCalm_inv hp;rw [<- he] at hj;have hk0 : itemK P O x T S (fun T s => itemsK P O xs T s k) = true := hk;obtain ⟨V', T', S', K', H', h1, h2⟩ := I.ahead hU hj hx hcalm hk0;refine ih _ _ l xs hl2 hxs V' T' S' (j :: D) H' h1 ⟨fun i' hi' o' ho' hlook => ?_, fun i' hi' => ?_⟩ fuel L K' m w a h2 hc;rcases List.mem_cons.1 hi' with rfl | hi'
     ·simp only [ho', hlook]
      exact List.mem_cons_self
     ·cases hoj : ops[j]? with
      | none => exact hl.1 i' hi' o' ho' hlook
      | some oj =>
       simp only;cases isLook oj.op with
       | true => exact List.mem_cons_of_mem _ (hl.1 i' hi' o' ho' hlook)
       | false => exact hl.1 i' hi' o' ho' hlook
     cases hoj : ops[j]? with
     | none =>
      rw [hoj] at hi';exact List.mem_cons_of_mem _ (hl.2 i' hi')
     | some oj =>
      rw [hoj] at hi';simp only at hi';cases hlk : isLook oj.op with
      | true =>
       rw [hlk] at hi';rcases List.mem_cons.1 hi' with rfl | hi'
       ·exact List.mem_cons_self
       ·exact List.mem_cons_of_mem _ (hl.2 i' hi')
      | false =>
       rw [hlk] at hi';exact List.mem_cons_of_mem _ (hl.2 i' hi')
    ·cases hs
   ·rename_i hp
    split at hs
    ·split at hs
     ·rename_i l hl2
      cases hs;obtain ⟨x, ags, xs, rfl, hx, ha, hxs⟩ := itemsOf_cons' hi;have hk0 : itemK P O x T S (fun T s => itemsK P O (ags ++ xs) T s k) = true := hk;have hcalm : ∀ o, ops[i]? = some o -> calm o.op = false := by
       intro o ho;simp only [pickCalm, ho] at hp;cases hcc : calm o.op with
       | false => rfl
       | true => rw [hcc] at hp; cases hp
      refine world_moves hU hO hQ (k := k) (fun h => by rw [he] at h; cases h) (fun j hj hjD fuel L K m w a I hr hc => ?_) fuel L K m w a I hc;rw [he] at hj;have hji : j = i := by simpa using hj
      subst hji;refine I.both hU hO hjD hr hx hk0 (fun V' T' S' m' w' a' h1 h2 => ?_);have hlD : ∀ i' ∈ D, ∀ o, ops[i']? = some o -> ∀ k, Deps o k -> k ∈ j :: D := fun i' hi' o ho k hk => List.mem_cons_of_mem _ (I.ord.closed i' o hi' ho k hk)
      obtain ⟨h3, h4⟩ := again_all (V := V') (Ti := Ti) (K0 := K0) (K := K) (H := H) ha h1 (fun i' hi' => ⟨fun o ho hlk t ht v => (h2.tE t v).trans (View.look hU ho (hlD i' (hl.2 i' (List.mem_filter.1 hi').1) o ho) hlk ht), fun o d ho hdst => (h2.tE d (V' i')).2 (.inl ⟨i', o, List.mem_cons_of_mem _ (hl.2 i' (List.mem_filter.1 hi').1), ho, hdst, rfl⟩)⟩);have I2 : Inv P B ops Ti K0 m0 a0 w0 V' T' S' (j :: D) (E.setIfInBounds j true) H True (L.setIfInBounds j true) K m' w' a' := by
       refine ⟨h2.se, h2.sl, h2.ed, h2.ord, h2.sub, h2.closed, h2.emb, h2.tE, h2.tW, h2.sz, fun i' hi' hn' => ?_, h2.k0, h2.le, h2.bel, h2.df⟩;have hp' := h2.pend i' hi' hn';obtain ⟨h0, o, ho, hd⟩ := mem_ready.1 hr;have hlt : j < ops.size := (Array.getElem?_eq_some_iff.1 ho).1;have hset := inL_set (L := L) (i := j) (by rw [I.sl]; exact hlt);have hne : i' ≠ j := fun e => hn' ((hset i').2 (.inl e))
       have hnL : ¬ inL L i' := fun e => hn' ((hset i').2 (.inr e))
       have hiD : i' ∈ D := by
        rcases List.mem_cons.1 hi' with e | e
        ·exact absurd e hne
        ·exact e
       have hp2 := hp';obtain ⟨x', o', Tj, g1, g2, g3, g4, g5, gT, g6⟩ := hp2;by_cases hlk : looks x'.op = true
       ·refine h4 i' (List.mem_filter.2 ⟨hl.1 i' hiD o' g2 ?_, ?_⟩) hp'
        ·cases hcc : compOp P o' with
         | none => rw [g4, hcc] at hlk; cases hlk
         | some c =>
          rw [g4, hcc] at hlk;exact (comp_kind (dst := o'.dst) (op := o'.op) (ty := o'.type) (pos := o'.pos) (af := o'.after) (gd := o'.guard) hcc).2.1 hlk
        ·cases han : anc (Region.before ops) j i' with
         | false => rfl
         | true => exact absurd (anc_in I.closed (j + 1) j (Nat.lt_succ_self j) ho (deps_of (p := inL L) hd) han) hnL
       ·exact Pend.up_l g1 (by simpa using hlk) hp'
      refine ih _ _ l xs hl2 hxs V' T' S' (j :: D) H h3 ⟨fun i' hi' o' ho' hlook => ?_, fun i' hi' => List.mem_cons_of_mem _ (hl.2 i' hi')⟩ fuel _ K m' w' a' I2 hc;rcases List.mem_cons.1 hi' with rfl | hi'
      ·have := hcalm o' ho'
       revert this hlook
       cases o'.op <;> simp [isLook, calm]
      ·exact hl.1 i' hi' o' ho' hlook
     ·cases hs
    ·cases hs
end
theorem draw_ok {P : Program} {B : Nat} {O : OK} (hO : ∀ K, CallOk P K B O) (K : Kp) : DrawOk P K B O := by
 intro r id ops items T s k hc hk m w a E hT;unfold compRegion at hc;simp only at hc;obtain ⟨h1, h2⟩ := sel_inv hc;simp only [Bool.and_eq_true] at h1;split at h2
 ·rename_i plan hp
  refine wpIn_region_any h1.2 ?_;have hn : ∀ i, ¬ inL (Array.replicate ops.size false) i := by
   intro i h;unfold inL at h;by_cases hi : i < ops.size
   ·simp [hi] at h
   ·simp [hi] at h
  have hn0 : ∀ t v, View ops (fun _ => undef) T (inL (Array.replicate ops.size false)) t v -> T.get t = some v := by
   rintro t v (⟨i, o, h, _⟩ | ⟨_, h⟩)
   ·exact absurd h (hn i)
   ·exact h
  refine draw_all (Ti := T) (uniq_of h1.1) hO (K0 := K) (m0 := m) (a0 := a) (w0 := w) (fun a' w' h => ⟨rfl, h⟩) ops.size (Array.replicate ops.size false) [] plan items hp h2 (fun _ => undef) T s [] (fun _ => 0) hk ⟨fun i hi => (by cases hi), fun i hi => (by cases hi)⟩ ops.size (Array.replicate ops.size false) K m { w with drawn := w.drawn + 1 } a ?_ ?_
  ·refine ⟨by simp, by simp, fun i => ⟨fun h => absurd h (hn i), fun h => by cases h⟩, trivial, fun i h => absurd h (hn i), fun i o h => absurd h (hn i), ⟨E.low, E.old, E.obj, E.inj, E.base, E.kept⟩, fun t v => ⟨fun h => .inr ⟨fun i o hi => (by cases hi), h⟩, ?_⟩, fun t v ht => hT t v (hn0 t v ht), fun t v ht => ?_, fun i hi => (by cases hi), fun j o h => h, Mp.le_refl m, ⟨rfl, rfl, rfl, Nat.le_refl _, fun _ _ => rfl⟩, rfl⟩
   ·rintro (⟨i, o, h, _⟩ | ⟨_, h⟩)
    ·cases h
    ·exact h
   ·obtain ⟨u, hu, _⟩ := hT t v ht
    exact (Array.getElem?_eq_some_iff.1 hu).1
  ·unfold cnt
   refine Nat.le_trans (List.length_filter_le _ _) ?_;simp
 ·cases h2
end Go.Proofs.Ytoeklhdklcpllaa.Ev
namespace Go.Proofs.Ytoeklhdklcpllaa.Ev
open Go Go.RowKit
def Holds (P : Program) : BT (Option CF) -> Nat -> Nat -> Prop
 | .leaf, _, _ => True
 | .node o l r, a, d => (o = none ∨ compF P a = o) /\ Holds P l (a + d) (2 * d) /\ Holds P r (a + 2 * d) (2 * d)
theorem holds_get {P : Program} {c : CF} : ∀ {t : BT (Option CF)} {a d n : Nat}, Holds P t a d -> t.get n = some (some c) -> compF P (a + d * n) = some c
 | .leaf, a, d, n, _, h => by cases h
 | .node o l r, a, d, n, ⟨h1, h2, h3⟩, h => by
  simp only [BT.get] at h;by_cases h0 : n = 0
  ·subst h0
   rw [if_pos rfl] at h;cases h;rcases h1 with h1 | h1
   ·cases h1
   ·simpa using h1
  ·rw [if_neg h0] at h
   by_cases hp : n % 2 = 1
   ·rw [if_pos hp] at h
    have := holds_get h2 h;have e : a + d + 2 * d * (n / 2) = a + d * n := by
     have : n = 2 * (n / 2) + 1 := by omega
     conv => rhs; rw [this]
     rw [Nat.mul_add, <- Nat.mul_assoc, Nat.mul_comm d 2];omega
    rw [<- e];exact this
   ·rw [if_neg hp] at h
    have := holds_get h3 h;have e : a + 2 * d + 2 * d * (n / 2 - 1) = a + d * n := by
     have : n = 2 * (n / 2 - 1) + 2 := by omega
     conv => rhs; rw [this]
     rw [Nat.mul_add, <- Nat.mul_assoc, Nat.mul_comm d 2];omega
    rw [<- e];exact this
theorem tab_ok {P : Program} {t : BT (Option CF)} (h : Holds P t 0 1) (f : Nat) (k : CF -> Bool) (hk : tabK t f k = true) : ∃ c, compF P f = some c /\ k c = true := by
 obtain ⟨o, ho, hk1⟩ := getK_inv (k := fun o => @Option.rec CF (fun _ => Bool) false k o) hk;cases o with
 | none => cases hk1
 | some c => exact ⟨c, by simpa using holds_get h ho, hk1⟩
theorem emb_start (P : Program) (w : World) : Emb P (fun _ => none) w.heap.size (fun _ => none) ⟨.leaf, 0⟩ w :=
 ⟨fun _ _ _ h => (by cases h), fun _ _ h => (by cases h), fun _ _ _ _ h => (by cases h), fun _ _ _ _ _ h => (by cases h), Nat.le_refl _, fun _ _ h => (by cases h)⟩
theorem yes_ok {P : Program} {t : BT (Option CF)} (h : Holds P t 0 1) {n : Nat} {f : FuncId} (hk : yesK P t n f = true) (w : World) :
 Calls P f #[] w (fun e w' => e = .returned (.bool true) /\ Below w.heap.size w w') := by
 have hk0 : (oracK P (tabK t) n).call f [] ⟨.leaf, 0⟩ (fun v _ => trueK v) = true := hk;obtain ⟨_, hcall⟩ := ((level (B := w.heap.size) (tab_ok h) (fun O hO K => draw_ok hO K) n) (fun _ => none)).2.call hk0 (us := []) (emb_start P w) (by simp only [LR]);refine (callsIn_wide (n := 0)).1 (CallsIn.mono hcall (fun e w' he => ?_));cases e with
 | returned u =>
  obtain ⟨v, s', m', h1, _, _, h4, h5⟩ := he;obtain ⟨b, rfl, h2⟩ := onBool_inv (k := fun b => b) h1;have hb : b = true := h2;subst hb;have : u = .bool true := by simpa only [VR] using h5
  exact ⟨by rw [this], h4⟩
 | panicked => exact he.elim
 | outgrown => exact he.elim
/-! Short words for turned code. -/
section
variable (d : Nat) (o : COp)
abbrev iM (s : Nat) : Item := ⟨none, some d, .mov (.t s)⟩
abbrev iO : Item := ⟨none, some d, o⟩
abbrev iN : Item := ⟨none, none, o⟩
abbrev vF : X := .c (.func (.func d) ⟨[]⟩ ⟨[]⟩)
abbrev iC (f : Nat) (l : List X) : Item := ⟨none, some d, .call (.c (.func (.func f) ⟨[]⟩ ⟨[]⟩)) l⟩
abbrev vI (z : Int) : X := .c (.int .i64 z)
abbrev y0 : Value := .int .i64 0
abbrev vt : X := .c (.bool true)
abbrev vf : X := .c (.bool false)
abbrev vn : X := .c (.slice none 0 0)
abbrev z0 : Value := .int .i64 (.ofNat 0)
abbrev cS (l : List Item) (c : CC) : CC := .seq (.items l) c
abbrev t0 : X := .t 0
abbrev t1 : X := .t 1
abbrev t2 : X := .t 2
abbrev t3 : X := .t 3
abbrev t4 : X := .t 4
abbrev t5 : X := .t 5
abbrev t6 : X := .t 6
abbrev t7 : X := .t 7
abbrev t8 : X := .t 8
abbrev t9 : X := .t 9
abbrev t10 : X := .t 10
abbrev t11 : X := .t 11
abbrev t12 : X := .t 12
abbrev t13 : X := .t 13
abbrev t14 : X := .t 14
abbrev t15 : X := .t 15
abbrev t16 : X := .t 16
abbrev t17 : X := .t 17
abbrev t18 : X := .t 18
abbrev t19 : X := .t 19
abbrev t20 : X := .t 20
abbrev t21 : X := .t 21
abbrev t22 : X := .t 22
abbrev t23 : X := .t 23
abbrev t24 : X := .t 24
abbrev t25 : X := .t 25
abbrev t26 : X := .t 26
abbrev t27 : X := .t 27
abbrev t28 : X := .t 28
abbrev t29 : X := .t 29
abbrev t30 : X := .t 30
abbrev t31 : X := .t 31
abbrev t32 : X := .t 32
abbrev t33 : X := .t 33
abbrev t34 : X := .t 34
abbrev t35 : X := .t 35
abbrev t36 : X := .t 36
abbrev t37 : X := .t 37
abbrev t38 : X := .t 38
abbrev t39 : X := .t 39
abbrev t40 : X := .t 40
abbrev t41 : X := .t 41
abbrev t42 : X := .t 42
abbrev t43 : X := .t 43
abbrev t44 : X := .t 44
abbrev t45 : X := .t 45
abbrev t46 : X := .t 46
abbrev t47 : X := .t 47
abbrev t48 : X := .t 48
abbrev t49 : X := .t 49
abbrev t50 : X := .t 50
abbrev t51 : X := .t 51
abbrev t52 : X := .t 52
abbrev t53 : X := .t 53
abbrev t54 : X := .t 54
abbrev t55 : X := .t 55
abbrev t56 : X := .t 56
abbrev t57 : X := .t 57
abbrev t58 : X := .t 58
abbrev t59 : X := .t 59
abbrev t60 : X := .t 60
abbrev t61 : X := .t 61
abbrev t62 : X := .t 62
abbrev t63 : X := .t 63
abbrev t64 : X := .t 64
abbrev t65 : X := .t 65
abbrev t66 : X := .t 66
abbrev t67 : X := .t 67
abbrev t68 : X := .t 68
abbrev t69 : X := .t 69
abbrev t70 : X := .t 70
abbrev t71 : X := .t 71
abbrev t72 : X := .t 72
abbrev t73 : X := .t 73
abbrev t74 : X := .t 74
abbrev t75 : X := .t 75
abbrev t76 : X := .t 76
abbrev t77 : X := .t 77
abbrev t78 : X := .t 78
abbrev t79 : X := .t 79
abbrev t80 : X := .t 80
abbrev t81 : X := .t 81
abbrev t82 : X := .t 82
abbrev t83 : X := .t 83
abbrev t84 : X := .t 84
abbrev t85 : X := .t 85
abbrev t86 : X := .t 86
abbrev t87 : X := .t 87
abbrev t88 : X := .t 88
abbrev t89 : X := .t 89
abbrev t90 : X := .t 90
abbrev t91 : X := .t 91
abbrev t92 : X := .t 92
abbrev t93 : X := .t 93
abbrev t94 : X := .t 94
abbrev t95 : X := .t 95
abbrev t96 : X := .t 96
abbrev t97 : X := .t 97
abbrev t98 : X := .t 98
abbrev t99 : X := .t 99
abbrev t100 : X := .t 100
abbrev t101 : X := .t 101
abbrev t102 : X := .t 102
abbrev t103 : X := .t 103
abbrev t104 : X := .t 104
abbrev t105 : X := .t 105
abbrev t106 : X := .t 106
abbrev t107 : X := .t 107
abbrev t108 : X := .t 108
abbrev t109 : X := .t 109
abbrev t110 : X := .t 110
abbrev t111 : X := .t 111
abbrev t112 : X := .t 112
abbrev t113 : X := .t 113
abbrev t114 : X := .t 114
abbrev t115 : X := .t 115
abbrev t116 : X := .t 116
abbrev t117 : X := .t 117
abbrev t118 : X := .t 118
abbrev t119 : X := .t 119
abbrev t120 : X := .t 120
abbrev t121 : X := .t 121
abbrev t122 : X := .t 122
abbrev t123 : X := .t 123
abbrev t124 : X := .t 124
abbrev t125 : X := .t 125
abbrev t126 : X := .t 126
abbrev t127 : X := .t 127
abbrev t128 : X := .t 128
abbrev t129 : X := .t 129
abbrev t130 : X := .t 130
abbrev t131 : X := .t 131
abbrev t132 : X := .t 132
abbrev t133 : X := .t 133
abbrev t134 : X := .t 134
abbrev t135 : X := .t 135
abbrev t136 : X := .t 136
abbrev t137 : X := .t 137
abbrev t138 : X := .t 138
abbrev t139 : X := .t 139
abbrev t140 : X := .t 140
abbrev t141 : X := .t 141
abbrev t142 : X := .t 142
abbrev t143 : X := .t 143
abbrev t144 : X := .t 144
abbrev t145 : X := .t 145
abbrev t146 : X := .t 146
abbrev t147 : X := .t 147
abbrev t148 : X := .t 148
abbrev t149 : X := .t 149
abbrev t150 : X := .t 150
abbrev t151 : X := .t 151
abbrev t152 : X := .t 152
abbrev t153 : X := .t 153
abbrev t154 : X := .t 154
abbrev t155 : X := .t 155
abbrev t156 : X := .t 156
abbrev t157 : X := .t 157
abbrev t158 : X := .t 158
abbrev t159 : X := .t 159
end
end Go.Proofs.Ytoeklhdklcpllaa.Ev
namespace Go.Proofs.Ytoeklhdklcpllaa.Ev
open Go Go.RowKit
/-! ## Trees -/
def Full {α : Type} : BT α -> Nat -> Prop
 | .leaf, n => n = 0
 | .node _ l r, n => n ≠ 0 /\ Full l (n / 2) /\ Full r ((n - 1) / 2)
theorem Full.some {α : Type} : ∀ {t : BT α} {n : Nat}, Full t n -> ∀ j, j < n -> (t.get j).isSome = true
 | .leaf, n, h, j, hj => by have : n = 0 := h; omega
 | .node a l r, n, ⟨h0, h1, h2⟩, j, hj => by
  simp only [BT.get];by_cases hj0 : j = 0
  ·simp [hj0]
  ·rw [if_neg hj0]
   by_cases hj1 : j % 2 = 1
   ·rw [if_pos hj1]; exact h1.some _ (by omega)
   ·rw [if_neg hj1]; exact h2.some _ (by omega)
theorem Full.none {α : Type} : ∀ {t : BT α} {n : Nat}, Full t n -> ∀ j, n <= j -> t.get j = none
 | .leaf, n, h, j, hj => rfl
 | .node a l r, n, ⟨h0, h1, h2⟩, j, hj => by
  simp only [BT.get];rw [if_neg (by omega)];by_cases hj1 : j % 2 = 1
  ·rw [if_pos hj1]; exact h1.none _ (by omega)
  ·rw [if_neg hj1]; exact h2.none _ (by omega)
theorem Full.lt {α : Type} {t : BT α} {n j : Nat} {v : α} (h : Full t n) (hv : t.get j = Option.some v) : j < n := by
 rcases Nat.lt_or_ge j n with h1 | h1
 ·exact h1
 ·rw [h.none j h1] at hv; cases hv
theorem updK_of {α : Type} {v : α} : ∀ {t : BT α} {n m : Nat} {k : BT α -> Bool}, Full t m -> n < m -> (∀ t', Full t' m -> (∀ j, t'.get j = if j = n then some v else t.get j) -> k t' = true) -> updK t n v k = true := by
 intro t
 induction t with
 | leaf => intro n m k h hn _; have : m = 0 := h; omega
 | node a l r il ir =>
  intro n m k h hn hk;obtain ⟨h0', hl, hr⟩ := h;show @Bool.rec (fun _ => Bool) (@Bool.rec (fun _ => Bool) (updK r (Nat.pred (Nat.div n 2)) v (fun r => k (.node a l r))) (updK l (Nat.div n 2) v (fun l => k (.node a l r))) (Nat.beq (Nat.mod n 2) 1)) (k (.node v l r)) (Nat.beq n 0) = true;rw [beq0, par];by_cases h0 : n = 0
  ·subst h0
   refine hk _ ⟨h0', hl, hr⟩ (fun j => ?_);by_cases hj : j = 0
   ·simp [hj, BT.get]
   ·simp [hj, BT.get]
  ·rw [decide_eq_false h0]
   by_cases h1 : n % 2 = 1
   ·rw [decide_eq_true h1]
    refine il hl (by show n / 2 < m / 2; omega) (fun t' hf hg => hk _ ⟨h0', hf, hr⟩ (fun j => ?_));simp only [BT.get];by_cases hj : j = 0
    ·simp [hj, Ne.symm h0]
    ·by_cases hj1 : j % 2 = 1
     ·rw [if_neg hj, if_pos hj1, hg]
      by_cases he : j = n
      ·subst he; simp; intro hh; exact absurd rfl hh
      ·have : j / 2 ≠ Nat.div n 2 := by show j / 2 ≠ n / 2; omega
       simp [this, he, hj, hj1]
     ·rw [if_neg hj, if_neg hj1]
      have : j ≠ n := fun e => hj1 (e ▸ h1)
      simp [this, hj, hj1]
   ·rw [decide_eq_false h1]
    refine ir hr (by show n / 2 - 1 < (m - 1) / 2; omega) (fun t' hf hg => hk _ ⟨h0', hl, hf⟩ (fun j => ?_));simp only [BT.get];by_cases hj : j = 0
    ·simp [hj, Ne.symm h0]
    ·by_cases hj1 : j % 2 = 1
     ·rw [if_neg hj, if_pos hj1]
      have : j ≠ n := fun e => h1 (e ▸ hj1)
      simp [this, hj, hj1]
     ·rw [if_neg hj, if_neg hj1, hg]
      by_cases he : j = n
      ·subst he; simp; intro hh; exact absurd rfl hh
      ·have : ¬ (j / 2 - 1 = Nat.pred (Nat.div n 2)) := by
        show ¬ (j / 2 - 1 = n / 2 - 1); omega
       rw [if_neg this, if_neg he, if_neg hj, if_neg hj1]
theorem addK_of {α : Type} {v : α} : ∀ {t : BT α} {n : Nat} {k : BT α -> Bool}, Full t n -> (∀ t', Full t' (n + 1) -> (∀ j, t'.get j = if j = n then some v else t.get j) -> k t' = true) -> addK t n v k = true := by
 intro t
 induction t with
 | leaf =>
  intro n k h hk;have h0 : n = 0 := h;subst h0;refine hk _ ⟨by omega, by simp [Full], by simp [Full]⟩ (fun j => ?_);by_cases hj : j = 0
  ·simp [hj, BT.get]
  ·simp only [BT.get, hj, if_false]; split <;> rfl
 | node a l r il ir =>
  intro n k h hk;obtain ⟨h0, hl, hr⟩ := h;show @Bool.rec (fun _ => Bool) (@Bool.rec (fun _ => Bool) (addK r (Nat.pred (Nat.div n 2)) v (fun r => k (.node a l r))) (addK l (Nat.div n 2) v (fun l => k (.node a l r))) (Nat.beq (Nat.mod n 2) 1)) false (Nat.beq n 0) = true;rw [beq0, par, decide_eq_false h0];by_cases h1 : n % 2 = 1
  ·rw [decide_eq_true h1]
   refine il (n := n / 2) hl (fun t' hf hg => hk _ ⟨by omega, by rw [show (n + 1) / 2 = n / 2 + 1 by omega]; exact hf, by rw [show (n + 1 - 1) / 2 = (n - 1) / 2 by omega]; exact hr⟩ (fun j => ?_));simp only [BT.get];by_cases hj : j = 0
   ·simp [hj, Ne.symm h0]
   ·by_cases hj1 : j % 2 = 1
    ·rw [if_neg hj, if_pos hj1, hg]
     by_cases he : j = n
     ·subst he; simp
     ·have : j / 2 ≠ n / 2 := by omega
      simp [this, he, hj, hj1]
    ·rw [if_neg hj, if_neg hj1]
     have : j ≠ n := fun e => hj1 (e ▸ h1)
     simp [this, hj, hj1]
  ·rw [decide_eq_false h1]
   refine ir (n := n / 2 - 1) (by rw [show n / 2 - 1 = (n - 1) / 2 by omega]; exact hr) (fun t' hf hg => hk _ ⟨by omega, by rw [show (n + 1) / 2 = n / 2 by omega]; exact hl, by rw [show (n + 1 - 1) / 2 = n / 2 - 1 + 1 by omega]; exact hf⟩ (fun j => ?_));simp only [BT.get];by_cases hj : j = 0
   ·simp [hj, Ne.symm h0]
   ·by_cases hj1 : j % 2 = 1
    ·rw [if_neg hj, if_pos hj1]
     have : j ≠ n := fun e => h1 (e ▸ hj1)
     simp [this, hj, hj1]
    ·rw [if_neg hj, if_neg hj1, hg]
     by_cases he : j = n
     ·subst he; simp
     ·have : ¬ (j / 2 - 1 = n / 2 - 1) := by omega
      rw [if_neg this, if_neg he, if_neg hj, if_neg hj1]
theorem addsK_of {α : Type} : ∀ {l : List α} {t : BT α} {n : Nat} {k : BT α -> Bool}, Full t n -> (∀ t', Full t' (n + l.length) -> (∀ j, t'.get j = if n <= j /\ j < n + l.length then l[j - n]? else t.get j) -> k t' = true) -> addsK t n l k = true
 | [], t, n, k, hf, hk => hk t hf (fun j => by rw [if_neg (by simp)])
 | v :: l, t, n, k, hf, hk => by
  show addK t n v (fun t => addsK t (Nat.succ n) l k) = true;refine addK_of hf (fun t' hf' hg => addsK_of (n := n + 1) hf' (fun t2 hf2 hg2 => hk t2 (by rw [show n + (v :: l).length = n + 1 + l.length by simp; omega]; exact hf2) (fun j => ?_)));rw [hg2];by_cases h1 : n + 1 <= j /\ j < n + 1 + l.length
  ·rw [if_pos h1, if_pos (by simp; omega)]
   obtain ⟨i, hi⟩ : ∃ i, j - n = i + 1 := ⟨j - n - 1, by omega⟩;rw [hi, List.getElem?_cons_succ]; congr 1; omega
  ·rw [if_neg h1, hg]
   by_cases h2 : j = n
   ·subst h2; rw [if_pos rfl, if_pos (by simp)]; simp
   ·rw [if_neg h2, if_neg (by simp; omega)]
theorem putsK_of {α : Type} : ∀ {l : List α} {t : BT α} {n m : Nat} {k : BT α -> Bool}, Full t m -> n + l.length <= m -> (∀ t', Full t' m -> (∀ j, t'.get j = if n <= j /\ j < n + l.length then l[j - n]? else t.get j) -> k t' = true) -> putsK t n l k = true
 | [], t, n, m, k, hf, hm, hk => hk t hf (fun j => by rw [if_neg (by simp)])
 | v :: l, t, n, m, k, hf, hm, hk => by
  show updK t n v (fun t => putsK t (Nat.succ n) l k) = true;simp only [List.length_cons] at hm;refine updK_of hf (by omega) (fun t' hf' hg => putsK_of (n := n + 1) hf' (by omega) (fun t2 hf2 hg2 => hk t2 hf2 (fun j => ?_)));rw [hg2];by_cases h1 : n + 1 <= j /\ j < n + 1 + l.length
  ·rw [if_pos h1, if_pos (by simp; omega)]
   obtain ⟨i, hi⟩ : ∃ i, j - n = i + 1 := ⟨j - n - 1, by omega⟩;rw [hi, List.getElem?_cons_succ]; congr 1; omega
  ·rw [if_neg h1, hg]
   by_cases h2 : j = n
   ·subst h2; rw [if_pos rfl, if_pos (by simp)]; simp
   ·rw [if_neg h2, if_neg (by simp; omega)]
theorem segK_of {α : Type} {t : BT α} : ∀ {l : List α} {i n : Nat} {k : List α -> Bool}, l.length = n -> (∀ j, j < n -> t.get (i + j) = l[j]?) -> k l = true -> segK t i n k = true
 | [], i, n, k, hn, hl, hk => by subst hn; exact hk
 | v :: l, i, n, k, hn, hl, hk => by
  subst hn;show getK t i (fun v => segK t (Nat.succ i) l.length (fun l => k (v :: l))) = true;refine getK_of (by simpa using hl 0 (by simp)) ?_;exact segK_of (i := i + 1) J (fun j hj => by have := hl (j + 1) (by simp; omega); simpa [Nat.add_assoc, Nat.add_comm 1 j] using this) hk
theorem romSegK_of {g : Nat -> Option Value} : ∀ {l : List Value} {i n : Nat} {k : List Value -> Bool}, l.length = n -> (∀ j, j < n -> g (i + j) = l[j]?) -> k l = true -> romSegK g i n k = true
 | [], i, n, k, hn, hl, hk => by subst hn; exact hk
 | v :: l, i, n, k, hn, hl, hk => by
  subst hn;show optK (g i) (fun v => romSegK g (Nat.succ i) l.length (fun l => k (v :: l))) = true;have h0 : g i = some v := by simpa using hl 0 (by simp)
  rw [h0];exact romSegK_of (i := i + 1) J (fun j hj => by have := hl (j + 1) (by simp; omega); simpa [Nat.add_assoc, Nat.add_comm 1 j] using this) hk
/-! ## Memory -/
def Wf (s : St) : Prop := Full s.h s.n
def Mod (s s' : St) (ch : List Nat) : Prop := Wf s' /\ s.n <= s'.n /\ ∀ b, b < s.n -> b ∉ ch -> s'.h.get b = s.h.get b
def Ext (s s' : St) : Prop := Wf s' /\ s.n <= s'.n /\ ∀ b, b < s.n -> s'.h.get b = s.h.get b
theorem Ext.refl {s : St} (h : Wf s) : Ext s s := ⟨h, Nat.le_refl _, fun _ _ => rfl⟩
theorem Ext.trans {a b c : St} (h : Ext a b) (k : Ext b c) : Ext a c := ⟨k.1, Nat.le_trans h.2.1 k.2.1, fun i hi => (k.2.2 i (Nat.lt_of_lt_of_le hi h.2.1)).trans (h.2.2 i hi)⟩
theorem Ext.mod {a b c : St} {ch : List Nat} (h : Ext a b) (k : Mod b c ch) (hc : ∀ i ∈ ch, a.n <= i) : Ext a c :=
 ⟨k.1, Nat.le_trans h.2.1 k.2.1, fun i hi => (k.2.2 i (Nat.lt_of_lt_of_le hi h.2.1) (fun hm => by have := hc i hm; omega)).trans (h.2.2 i hi)⟩
def At (s : St) (b off : Nat) (v : Value) : Prop := ∃ f, Sees s b f /\ f off = some v
def Ats (s : St) (b : Nat) : Nat -> List Value -> Prop
 | _, [] => True
 | off, v :: l => At s b off v /\ Ats s b (off + 1) l
theorem sees_lt {s : St} (h : Wf s) {b : Nat} {f : Nat -> Option Value} (hs : Sees s b f) : b < s.n := by
 rcases hs with ⟨n, c, e, op, h1, _⟩ | h1 <;> exact Full.lt h h1
theorem Sees.same {s s' : St} {b : Nat} {f : Nat -> Option Value} (h : Sees s b f) (hb : s'.h.get b = s.h.get b) : Sees s' b f := by
 rcases h with ⟨n, c, e, op, h1, h2⟩ | h1
 ·exact .inl ⟨n, c, e, op, hb.trans h1, h2⟩
 ·exact .inr (hb.trans h1)
theorem At.ext {s s' : St} (hw : Wf s) {b off : Nat} {v : Value} (h : At s b off v) (e : Ext s s') : At s' b off v := by
 obtain ⟨f, h1, h2⟩ := h;exact ⟨f, h1.same (e.2.2 b (sees_lt hw h1)), h2⟩
theorem Ats.ext {s s' : St} (hw : Wf s) {b : Nat} : ∀ {l : List Value} {off : Nat}, Ats s b off l -> Ext s s' -> Ats s' b off l
 | [], _, _, _ => trivial
 | _ :: _, _, ⟨h1, h2⟩, e => ⟨h1.ext hw e, h2.ext hw e⟩
theorem At.same {s : St} {b off : Nat} {v v' : Value} (h : At s b off v) (h' : At s b off v') : v = v' := by
 obtain ⟨f, h1, h2⟩ := h;obtain ⟨g, h3, h4⟩ := h';have : f = g := by
  rcases h1 with ⟨n, c, e, op, h5, rfl⟩ | h5 <;> rcases h3 with ⟨n', c', e', op', h6, rfl⟩ | h6
  ·rw [h5] at h6; cases h6; rfl
  ·rw [h5] at h6; cases h6
  ·rw [h5] at h6; cases h6
  ·rw [h5] at h6; cases h6; rfl
 subst this;rw [h2] at h4; exact Option.some.inj h4
theorem Ats.see {s : St} {b : Nat} : ∀ {l : List Value} {off : Nat}, Ats s b off l -> l ≠ [] -> ∃ f, Sees s b f /\ ∀ j, j < l.length -> f (off + j) = l[j]?
 | [], _, _, h => absurd rfl h
 | [v], off, ⟨⟨f, h1, h2⟩, _⟩, _ => ⟨f, h1, fun j hj => by
  have : j = 0 := by simpa using hj
  subst this; simpa using h2⟩
 | v :: u :: l, off, ⟨⟨f, h1, h2⟩, h3⟩, _ => by
  obtain ⟨g, h4, h5⟩ := Ats.see h3 (by simp);have : f = g := by
   rcases h1 with ⟨n, c, e, op, h6, rfl⟩ | h6 <;> rcases h4 with ⟨n', c', e', op', h7, rfl⟩ | h7
   ·rw [h6] at h7; cases h7; rfl
   ·rw [h6] at h7; cases h7
   ·rw [h6] at h7; cases h7
   ·rw [h6] at h7; cases h7; rfl
  subst this;refine ⟨f, h1, fun j hj => ?_⟩;cases j with
  | zero => simpa using h2
  | succ j => have := h5 j (by simp at hj ⊢; omega); rw [List.getElem?_cons_succ, <- this]; congr 1; omega
def Obj (s : St) (b e : Nat) (op : Bool) (l : List Value) : Prop := ∃ c, s.h.get b = some (.cells l.length c e op) /\ Full c l.length /\ ∀ j, c.get j = l[j]?
theorem Obj.same {s s' : St} {b e : Nat} {op : Bool} {l : List Value} (h : Obj s b e op l) (hb : s'.h.get b = s.h.get b) : Obj s' b e op l := by
 obtain ⟨c, h1, h2⟩ := h;exact ⟨c, hb.trans h1, h2⟩
theorem Obj.lt {s : St} (hw : Wf s) {b e : Nat} {op : Bool} {l : List Value} (h : Obj s b e op l) : b < s.n := by
 obtain ⟨c, h1, _⟩ := h;exact Full.lt hw h1
theorem Obj.ext {s s' : St} (hw : Wf s) {b e : Nat} {op : Bool} {l : List Value} (h : Obj s b e op l) (x : Ext s s') : Obj s' b e op l := h.same (x.2.2 b (h.lt hw))
theorem Obj.at {s : St} {b e : Nat} {op : Bool} {l : List Value} (h : Obj s b e op l) {off : Nat} {v : Value} (hv : l[off]? = some v) : At s b off v := by
 obtain ⟨c, h1, _, h2⟩ := h;exact ⟨c.get, .inl ⟨_, c, e, op, h1, rfl⟩, (h2 off).trans hv⟩
theorem Obj.ats {s : St} {b e : Nat} {op : Bool} {l : List Value} (h : Obj s b e op l) : ∀ {r : List Value} {off : Nat}, (∀ j, j < r.length -> l[off + j]? = r[j]?) -> Ats s b off r
 | [], _, _ => trivial
 | v :: r, off, hr => ⟨h.at (by simpa using hr 0 (by simp)), h.ats (fun j hj => by have := hr (j + 1) (by simp; omega); simpa [Nat.add_assoc, Nat.add_comm 1 j] using this)⟩
theorem Obj.all {s : St} {b e : Nat} {op : Bool} {l : List Value} (h : Obj s b e op l) : Ats s b 0 l := h.ats (fun j _ => by rw [Nat.zero_add])
/-! ## Primitive steps -/
theorem nOf_of {s : St} {k : Nat -> Bool} (h : k s.n = true) : nOf s k = true := by obtain ⟨h0, n⟩ := s; exact h
theorem objK_of {s : St} {b : Nat} {o : CObj} {k : CObj -> Bool} (h : s.h.get b = some o) (hk : k o = true) : objK s b k = true := by obtain ⟨h0, n⟩ := s; exact getK_of h hk
theorem newK_of {s : St} {o : CObj} {k : St -> Bool} (hw : Wf s) (hk : ∀ s', Ext s s' -> s'.n = s.n + 1 -> s'.h.get s.n = some o -> k s' = true) : newK s o k = true := by
 obtain ⟨h0, n⟩ := s;show addK h0 n o (fun h => forceN (Nat.succ n) (fun m => k ⟨h, m⟩)) = true;refine addK_of hw (fun t hf hg => ?_);rw [forceN_eq];refine hk ⟨t, n + 1⟩ ⟨hf, Nat.le_succ n, fun b hb => ?_⟩ rfl ?_
 ·show t.get b = h0.get b
  rw [hg, if_neg (by have : b < n := hb; omega)]
 ·show t.get n = _
  rw [hg, if_pos rfl]
theorem storeK_of {s : St} {b : Nat} {o : CObj} {k : St -> Bool} (hw : Wf s) (hb : b < s.n) (hk : ∀ s', Mod s s' [b] -> s'.n = s.n -> s'.h.get b = some o -> k s' = true) : storeK s b o k = true := by
 obtain ⟨h0, n⟩ := s;show updK h0 b o (fun h => k ⟨h, n⟩) = true;refine updK_of hw hb (fun t hf hg => hk ⟨t, n⟩ ⟨hf, Nat.le_refl _, fun i hi hne => ?_⟩ rfl ?_)
 ·show t.get i = h0.get i
  rw [hg, if_neg (by simpa using hne)]
 ·show t.get b = _
  rw [hg, if_pos rfl]
theorem seeK_of {s : St} {b : Nat} {f : Nat -> Option Value} {kc : BT Value -> Bool} {kr : (Nat -> Option Value) -> Bool} (h : Sees s b f) (h1 : ∀ c, f = c.get -> kc c = true) (h2 : kr f = true) : seeK s b kc kr = true := by
 rcases h with ⟨n, c, e, op, h3, rfl⟩ | h3
 ·exact objK_of (k := fun o => @CObj.casesOn (fun _ => Bool) o false (fun _ c _ _ => kc c) (fun _ _ _ _ _ _ _ => false) (fun _ => false) (fun _ => false) kr) h3 (h1 c rfl)
 ·exact objK_of (k := fun o => @CObj.casesOn (fun _ => Bool) o false (fun _ c _ _ => kc c) (fun _ _ _ _ _ _ _ => false) (fun _ => false) (fun _ => false) kr) h3 h2
theorem ldK_one {s : St} {b off : Nat} {v : Value} {k : Value -> Bool} (h : At s b off v) (hk : k v = true) : ldK s none (.pointer (some ⟨b, off, none⟩)) k = true := by
 obtain ⟨f, h1, h2⟩ := h;show seeK s b (fun c => cutK c off none k) (fun g => romCutK g off none k) = true;refine seeK_of h1 (fun c hc => ?_) ?_
 ·subst hc; exact getK_of h2 hk
 ·show optK (f off) k = true
  rw [h2]; exact hk
theorem ldK_agg {s : St} {b off n : Nat} {l : List Value} {k : Value -> Bool} (h : Ats s b off l) (hn : l.length = n) (h0 : n ≠ 0) (hk : k (.agg ⟨l⟩) = true) : ldK s (some n) (.pointer (some ⟨b, off, none⟩)) k = true := by
 obtain ⟨f, h1, h2⟩ := h.see (by intro h; subst h; simp at hn; omega);show seeK s b (fun c => cutK c off (some n) k) (fun g => romCutK g off (some n) k) = true;refine seeK_of h1 (fun c hc => ?_) ?_
 ·subst hc; exact segK_of (k := fun l => k (.agg ⟨l⟩)) hn (fun j hj => h2 j (by omega)) hk
 ·exact romSegK_of (k := fun l => k (.agg ⟨l⟩)) hn (fun j hj => h2 j (by omega)) hk
theorem rowK_of2 {s : St} {b e : Nat} {op : Bool} {l : List Value} {k : Nat -> BT Value -> Nat -> Bool -> Bool} (h : Obj s b e op l) (hk : ∀ c, Full c l.length -> (∀ j, c.get j = l[j]?) -> k l.length c e op = true) : rowK s b k = true := by
 obtain ⟨c, h1, h2, h3⟩ := h;exact rowK_of h1 (hk c h2 h3)
theorem stK_one {s : St} {b off e : Nat} {op : Bool} {l : List Value} {v : Value} {k : St -> Bool} (hw : Wf s) (h : Obj s b e op l) (ho : off < l.length) (h1 : oneCell v = true) (hk : ∀ s', Mod s s' [b] -> s'.n = s.n -> Obj s' b e op (l.set off v) -> k s' = true) :
 stK s none v (.pointer (some ⟨b, off, none⟩)) k = true := by
 refine rowK_of2 (k := fun m c e op => ifB (oneCell v) (ifB (Nat.blt off m) (updK c off v (fun c => storeK s b (.cells m c e op) k)) false) false) h (fun c hf hc => ?_);rw [h1, show Nat.blt off l.length = true from by rw [Nat.blt_eq]; exact ho];refine updK_of hf ho (fun c' hf' hg => storeK_of hw (h.lt hw) (fun s' hm hn hs => hk s' hm hn ⟨c', by simpa using hs, by simpa using hf', fun j => ?_⟩));rw [hg, List.getElem?_set];by_cases hj : j = off
 ·subst hj; simp [ho]
 ·rw [if_neg hj, if_neg (Ne.symm hj)]; exact hc j
def over (l : List Value) (off : Nat) (r : List Value) : List Value := l.take off ++ r ++ l.drop (off + r.length)
theorem over_length {l r : List Value} {off : Nat} (h : off + r.length <= l.length) : (over l off r).length = l.length := by
 unfold over; simp; omega
theorem over_get {l r : List Value} {off : Nat} (h : off + r.length <= l.length) (j : Nat) : (over l off r)[j]? = if off <= j /\ j < off + r.length then r[j - off]? else l[j]? := by
 unfold over;by_cases h1 : j < off
 ·rw [if_neg (by omega), List.append_assoc, List.getElem?_append_left (by simp; omega), List.getElem?_take, if_pos h1]
 ·by_cases h2 : j < off + r.length
  ·rw [if_pos ⟨by omega, h2⟩, List.append_assoc, List.getElem?_append_right (by simp; omega)]
   rw [List.getElem?_append_left (by simp; omega)]; congr 1; simp; omega
  ·rw [if_neg (by omega), List.getElem?_append_right (by simp; omega), List.getElem?_drop]
   congr 1; simp; omega
theorem stK_agg {s : St} {b off e n : Nat} {op : Bool} {l r : List Value} {k : St -> Bool} (hw : Wf s) (h : Obj s b e op l) (ho : off + n <= l.length) (hn : r.length = n) (h1 : allOne r = true) (hk : ∀ s', Mod s s' [b] -> s'.n = s.n -> Obj s' b e op (over l off r) -> k s' = true) :
 stK s (some n) (.agg ⟨r⟩) (.pointer (some ⟨b, off, none⟩)) k = true := by
 refine rowK_of2 (k := fun m c e op => onAgg (.agg ⟨r⟩) (fun l => ifB (Nat.beq l.length n) (ifB (Nat.ble (Nat.add off n) m) (ifB (allOne l) (putsK c off l (fun c => storeK s b (.cells m c e op) k)) false) false) false)) h (fun c hf hc => ?_);show ifB (Nat.beq r.length n) (ifB (Nat.ble (Nat.add off n) l.length) (ifB (allOne r) _ false) false) false = true;rw [h1, show Nat.beq r.length n = true from by rw [Nat.beq_eq]; exact hn, show Nat.ble (Nat.add off n) l.length = true from by rw [Nat.ble_eq]; exact ho];have ho' : off + r.length <= l.length := by omega
 refine putsK_of hf ho' (fun c' hf' hg => storeK_of hw (h.lt hw) (fun s' hm hn hs => hk s' hm hn ⟨c', by rw [over_length ho']; exact hs, by rw [over_length ho']; exact hf', fun j => ?_⟩));rw [hg, over_get ho', hc]
theorem newRow_of {s : St} {e : Nat} {op : Bool} {l : List Value} {c : BT Value} {k : St -> Bool} {m : Nat} (hm : m = l.length) (hw : Wf s) (hf : Full c l.length) (hc : ∀ j, c.get j = l[j]?) (hk : ∀ s', Ext s s' -> s'.n = s.n + 1 -> Obj s' s.n e op l -> k s' = true) : newK s (.cells m c e op) k = true := by
 subst hm;exact newK_of hw (fun s' h1 h2 h3 => hk s' h1 h2 ⟨c, h3, hf, hc⟩)
theorem rowOfList {l : List Value} {k : BT Value -> Bool} (hk : ∀ c, Full c l.length -> (∀ j, c.get j = l[j]?) -> k c = true) : addsK .leaf 0 l k = true := by
 refine addsK_of (n := 0) (by simp [Full]) (fun c hf hg => hk c (by simpa using hf) (fun j => ?_));rw [hg];by_cases h : 0 <= j /\ j < 0 + l.length
 ·rw [if_pos h]; simp
 ·rw [if_neg h, List.getElem?_eq_none (by omega)]; rfl
end Go.Proofs.Ytoeklhdklcpllaa.Ev
namespace Go.Proofs.Ytoeklhdklcpllaa.Ev
open Go Go.RowKit
noncomputable section
def oracX (P : Program) (C : Nat -> (CF -> Bool) -> Bool) (X : FuncId -> List Value -> St -> (Value -> St -> Bool) -> Bool) (n : Nat) : OK :=
 @Nat.rec (fun _ => OK) { code := fun _ _ _ _ _ _ => false, call := X } (fun _ ih => { code := codeK P ih, call := fun f vs s k => X f vs s k || callK C ih f vs s k }) n
def KnownOk (P : Program) (X : FuncId -> List Value -> St -> (Value -> St -> Bool) -> Bool) : Prop :=
 ∀ {K : Kp} {B : Nat} {f : FuncId} {vs : List Value} {s : St} {k : Value -> St -> Bool}, X f vs s k = true -> ∀ {m : Mp} {w : World} {us : List Value}, Emb P K B m s w -> LR m vs us ->
  (∀ w, (callFunc f ⟨us⟩).run P w = .ok (.enter f ⟨us⟩) w) /\ CallsIn Fence.wide 0 P f ⟨us⟩ w (Ends P K B m w k)
theorem levelX {P : Program} {B : Nat} {C : Nat -> (CF -> Bool) -> Bool} {X : FuncId -> List Value -> St -> (Value -> St -> Bool) -> Bool} (hC : ∀ f k, C f k = true -> ∃ c, compF P f = some c /\ k c = true) (hX : KnownOk P X) (n : Nat) : ∀ K, CodeOk P K B (oracX P C X n).code /\ CallOk P K B (oracX P C X n) := by
 induction n with
 | zero =>
  intro K;have hcode : CodeOk P K B (oracX P C X 0).code := { code := (by intro r c T D s k h; cases h), loop := (by intro r c T D s k h; cases h) };exact ⟨hcode, { call := (by intro f vs s k h m w us E hv; exact hX h E hv), round := (by intro l vs s k hk m w us x y hm E hv; exact round_ok hcode hk hm E hv) }⟩
 | succ n ih =>
  intro K;have hcode : CodeOk P K B (oracX P C X (n + 1)).code := code_ok (ih K).2 (ih K).1 (draw_ok (fun K => (ih K).2) K) (range_ok (ih K).2);refine ⟨hcode, { call := ?_, round := (by intro l vs s k hk m w us x y hm E hv; exact round_ok hcode hk hm E hv) }⟩;intro f vs s k hk m w us E hv;have hk' : (X f vs s k || callK C (oracX P C X n) f vs s k) = true := hk;rcases Bool.or_eq_true _ _ ▸ hk' with h | h
  ·exact hX h E hv
  ·exact call_ok hC (ih K).1 h E hv
theorem open_ok {P : Program} {t : BT (Option CF)} (h : Holds P t 0 1) {X : FuncId -> List Value -> St -> (Value -> St -> Bool) -> Bool} (hX : KnownOk P X) {n : Nat} {f : FuncId} {vs us : List Value} {s : St} {m : Mp} {w : World} {k : Value -> St -> Bool}
 (hk : (oracX P (tabK t) X n).call f vs s k = true) (E : Emb P (fun _ => none) w.heap.size m s w) (hv : LR m vs us) :
 Calls P f ⟨us⟩ w (fun e w' => ∃ u, e = .returned u /\ Below w.heap.size w w' /\ ∃ v s' m', k v s' = true /\ m.le m' /\ Emb P (fun _ => none) w.heap.size m' s' w' /\ VR m' v u) := by
 obtain ⟨_, hcall⟩ := (levelX (B := w.heap.size) (tab_ok h) hX n (fun _ => none)).2.call hk E hv;refine (callsIn_wide (n := 0)).1 (CallsIn.mono hcall (fun e w' he => ?_));cases e with
 | returned u =>
  obtain ⟨v, s', m', h1, h2, h3, h4, h5⟩ := he;exact ⟨u, rfl, h4, v, s', m', h1, h2, h3, h5⟩
 | panicked => exact he.elim
 | outgrown => exact he.elim
/-! ## What is known of temporaries -/
theorem beqF {a b : Nat} (h : a ≠ b) : Nat.beq a b = false := by
 cases hb : Nat.beq a b with
 | false => rfl
 | true => exact absurd (by simpa using hb) h
def look : List (Nat × Value) -> Nat -> Option Value
 | [], _ => none
 | (t, v) :: l, i => sel (Nat.beq t i) (some v) (look l i)
def Cov (nt : Nat) (T : BT Value) (env : List (Nat × Value)) : Prop := Full T nt /\ ∀ t v, look env t = some v -> T.get t = some v
def xv (env : List (Nat × Value)) : X -> Option Value
 | .t i => look env i
 | .c v => some v
def xvs (env : List (Nat × Value)) : List X -> Option (List Value)
 | [] => some []
 | x :: l => match xv env x, xvs env l with
  | some v, some l => some (v :: l)
  | _, _ => none
def xps (env : List (Nat × Value)) : List (Nat × Nat × X) -> Option (List (Nat × Nat × Value))
 | [] => some []
 | (o, n, x) :: l => match xv env x, xps env l with
  | some v, some l => some ((o, n, v) :: l)
  | _, _ => none
def xo (env : List (Nat × Value)) : Option X -> Option (Option Value)
 | none => some none
 | some x => match xv env x with
  | some v => some (some v)
  | none => none
theorem Y6 {nt : Nat} {T : BT Value} {env : List (Nat × Value)} (h : Cov nt T env) {x : X} {v : Value} {k : Value -> Bool} (hx : xv env x = some v) (hk : k v = true) : valK T x k = true := by
 cases x with
 | t i => exact getK_of (h.2 i v hx) hk
 | c u => cases hx; exact hk
theorem valsE_of {nt : Nat} {T : BT Value} {env : List (Nat × Value)} (h : Cov nt T env) : ∀ {l : List X} {vs : List Value} {k : List Value -> Bool}, xvs env l = some vs -> k vs = true -> valsK T l k = true
 | [], vs, k, hx, hk => by cases hx; exact hk
 | x :: l, vs, k, hx, hk => by
  simp only [xvs] at hx;split at hx
  ·rename_i v vs' h1 h2
   cases hx;exact Y6 h (k := fun v => valsK T l (fun l => k (v :: l))) h1 (valsE_of h (k := fun l => k (v :: l)) h2 hk)
  ·cases hx
theorem partsE_of {nt : Nat} {T : BT Value} {env : List (Nat × Value)} (h : Cov nt T env) : ∀ {l : List (Nat × Nat × X)} {vs : List (Nat × Nat × Value)} {k : List (Nat × Nat × Value) -> Bool}, xps env l = some vs -> k vs = true -> partsK T l k = true
 | [], vs, k, hx, hk => by cases hx; exact hk
 | (o, n, x) :: l, vs, k, hx, hk => by
  simp only [xps] at hx;split at hx
  ·rename_i v vs' h1 h2
   cases hx;exact Y6 h (k := fun v => partsK T l (fun l => k ((o, n, v) :: l))) h1 (partsE_of h (k := fun l => k ((o, n, v) :: l)) h2 hk)
  ·cases hx
def putE (d : Option Nat) (v : Value) (env : List (Nat × Value)) : List (Nat × Value) := match d with | some d => (d, v) :: env | none => env
def okD (d : Option Nat) (nt : Nat) : Bool := match d with | some d => Nat.blt d nt | none => true
theorem putTK_of {nt : Nat} {T : BT Value} {env : List (Nat × Value)} (h : Cov nt T env) {d : Option Nat} {v : Value} {k : BT Value -> Bool} (hd : okD d nt = true) (hk : ∀ T', Cov nt T' (putE d v env) -> k T' = true) : putTK T d v k = true := by
 cases d with
 | none => exact hk T h
 | some d =>
  have hd' : d < nt := by simpa [okD, Nat.blt_eq] using hd
  refine updK_of h.1 hd' (fun T' hf hg => hk T' ⟨hf, fun t u hu => ?_⟩);rw [hg];simp only [putE, look] at hu;by_cases ht : t = d
  ·subst ht
   rw [show Nat.beq t t = true from by rw [Nat.beq_eq]] at hu;rw [if_pos rfl]; exact hu
  ·rw [show Nat.beq d t = false from beqF (Ne.symm ht)] at hu
   rw [if_neg ht]; exact h.2 t u hu
def Less (env env' : List (Nat × Value)) : Prop := ∀ t v, look env' t = some v -> look env t = some v
theorem Cov.less {nt : Nat} {T : BT Value} {env env' : List (Nat × Value)} (h : Cov nt T env) (hl : Less env env') : Cov nt T env' := ⟨h.1, fun t v hv => h.2 t v (hl t v hv)⟩
theorem Less.nil {env : List (Nat × Value)} : Less env [] := fun t v h => by cases h
theorem Less.cons {env env' : List (Nat × Value)} {t : Nat} {v : Value} (h1 : look env t = some v) (h : Less env env') : Less env ((t, v) :: env') := fun i u hu => by
 simp only [look] at hu;by_cases hi : t = i
 ·subst hi
  rw [show Nat.beq t t = true from by rw [Nat.beq_eq]] at hu;rw [h1]; exact hu
 ·rw [show Nat.beq t i = false from beqF hi] at hu
  exact h i u hu
/-! ## Code by what stands behind it -/
section
variable (P : Program) (C : Nat -> (CF -> Bool) -> Bool) (X : FuncId -> List Value -> St -> (Value -> St -> Bool) -> Bool)
def CallQ (n : Nat) (f : FuncId) (vs : List Value) (s : St) (Q : Value -> St -> Prop) : Prop := ∀ k, (∀ v s', Q v s' -> k v s' = true) -> (oracX P C X n).call f vs s k = true
def RunE (n nt : Nat) (r : Option Nat) (c : CC) (env : List (Nat × Value)) (D : List Nat) (s : St) (Q : Out -> List (Nat × Value) -> List Nat -> St -> Prop) : Prop :=
 ∀ T, Cov nt T env -> ∀ k, (∀ x env' T' D' s', Cov nt T' env' -> Q x env' D' s' -> k x T' D' s' = true) -> (oracX P C X n).code r c T D s k = true
def ItE (n nt : Nat) (l : List Item) (env : List (Nat × Value)) (s : St) (Q : List (Nat × Value) -> St -> Prop) : Prop :=
 ∀ T, Cov nt T env -> ∀ k, (∀ env' T' s', Cov nt T' env' -> Q env' s' -> k T' s' = true) -> itemsK P (oracX P C X n) l T s k = true
def OpE (n nt : Nat) (c : COp) (env : List (Nat × Value)) (s : St) (R : Value -> St -> Prop) : Prop :=
 ∀ T, Cov nt T env -> ∀ k, (∀ v s', R v s' -> k v s' = true) -> runAnyK P (oracX P C X n) T s c k = true
end
def thenQ (N : List (Nat × Value) -> List Nat -> St -> Prop) (Q : Out -> List (Nat × Value) -> List Nat -> St -> Prop) : Out -> List (Nat × Value) -> List Nat -> St -> Prop
 | .normal, e, D, s => N e D s
 | .ret, e, D, s => Q .ret e D s
 | .exit i, e, D, s => Q (.exit i) e D s
 | .goto i, e, D, s => Q (.goto i) e D s
def blockQ (id : Nat) (Q : Out -> List (Nat × Value) -> List Nat -> St -> Prop) : Out -> List (Nat × Value) -> List Nat -> St -> Prop
 | .exit j, e, D, s => sel (Nat.beq j id) (Q .normal e D s) (Q (.exit j) e D s)
 | .normal, e, D, s => Q .normal e D s
 | .ret, e, D, s => Q .ret e D s
 | .goto i, e, D, s => Q (.goto i) e D s
section
variable {P : Program} {C : Nat -> (CF -> Bool) -> Bool} {X : FuncId -> List Value -> St -> (Value -> St -> Bool) -> Bool} {n nt : Nat} {r : Option Nat} {env : List (Nat × Value)} {D : List Nat} {s : St} {Q : Out -> List (Nat × Value) -> List Nat -> St -> Prop}
theorem run_skip (h : Q .normal env D s) : RunE P C X (n + 1) nt r .skip env D s Q := fun T hT k hk => hk _ _ T D s hT h
theorem run_ret (h : Q .ret env D s) : RunE P C X (n + 1) nt r .ret env D s Q := fun T hT k hk => hk _ _ T D s hT h
theorem run_exit {i : Nat} (h : Q (.exit i) env D s) : RunE P C X (n + 1) nt r (.exit i) env D s Q := fun T hT k hk => hk _ _ T D s hT h
theorem run_seq {a b : CC} (h : RunE P C X n nt r a env D s (thenQ (fun e D s => RunE P C X n nt r b e D s Q) Q)) : RunE P C X (n + 1) nt r (.seq a b) env D s Q := fun T hT k hk => by
 refine h T hT _ (fun x e T' D' s' hT' hq => ?_);cases x with
 | normal => exact hq T' hT' k hk
 | ret => exact hk _ _ T' D' s' hT' hq
 | exit i => exact hk _ _ T' D' s' hT' hq
 | goto i => exact hk _ _ T' D' s' hT' hq
theorem run_block {id : Nat} {b : CC} (h : RunE P C X n nt r b env D s (blockQ id Q)) : RunE P C X (n + 1) nt r (.block id b) env D s Q := fun T hT k hk => by
 refine h T hT _ (fun x e T' D' s' hT' hq => ?_);cases x with
 | normal => exact hk _ _ T' D' s' hT' hq
 | ret => exact hk _ _ T' D' s' hT' hq
 | goto i => exact hk _ _ T' D' s' hT' hq
 | exit j =>
  show ifB (Nat.beq j id) (k .normal T' D' s') (k (.exit j) T' D' s') = true;have hq' : sel (Nat.beq j id) (Q .normal e D' s') (Q (.exit j) e D' s') := hq;cases hb : Nat.beq j id with
  | true => rw [hb] at hq'; exact hk _ _ T' D' s' hT' hq'
  | false => rw [hb] at hq'; exact hk _ _ T' D' s' hT' hq'
theorem run_cond_t {x : Ev.X} {a b : CC} (hx : xv env x = some (.bool true)) (h : RunE P C X n nt r a env D s Q) : RunE P C X (n + 1) nt r (.cond x a b) env D s Q := fun T hT k hk =>
 Y6 hT (k := fun v => onBool v (fun t => @Bool.rec (fun _ => Bool) ((oracX P C X n).code r b T D s k) ((oracX P C X n).code r a T D s k) t)) hx (h T hT k hk)
theorem run_cond_f {x : Ev.X} {a b : CC} (hx : xv env x = some (.bool false)) (h : RunE P C X n nt r b env D s Q) : RunE P C X (n + 1) nt r (.cond x a b) env D s Q := fun T hT k hk =>
 Y6 hT (k := fun v => onBool v (fun t => @Bool.rec (fun _ => Bool) ((oracX P C X n).code r b T D s k) ((oracX P C X n).code r a T D s k) t)) hx (h T hT k hk)
theorem run_items {l : List Item} (h : ItE P C X n nt l env s (fun e s => Q .normal e D s)) : RunE P C X (n + 1) nt r (.items l) env D s Q := fun T hT k hk =>
 h T hT (fun T s => k .normal T D s) (fun e T' s' hT' hq => hk _ _ T' D s' hT' hq)
theorem RunE.less {c : CC} {env' : List (Nat × Value)} (hl : Less env env') (h : RunE P C X n nt r c env' D s Q) : RunE P C X n nt r c env D s Q := fun T hT k hk => h T (hT.less hl) k hk
theorem RunE.mono {c : CC} {Q' : Out -> List (Nat × Value) -> List Nat -> St -> Prop} (h : RunE P C X n nt r c env D s Q') (hq : ∀ x e D s, Q' x e D s -> Q x e D s) : RunE P C X n nt r c env D s Q := fun T hT k hk => h T hT k (fun x e T' D' s' hT' hq' => hk x e T' D' s' hT' (hq _ _ _ _ hq'))
theorem run_loop {b : CC} (I : Nat -> List (Nat × Value) -> St -> Prop) (c K : Nat) (hb : ∀ n, K <= n -> ∀ j e s, I j e s -> RunE P C X (n + c) nt r b e D s (thenQ (fun e' D' s' => D' = D /\ ∃ j' e2, j' < j /\ Less e' e2 /\ I j' e2 s') Q)) :
 ∀ {n j : Nat} {env : List (Nat × Value)} {s : St}, K <= n -> I j env s -> RunE P C X (n + j + c + 1) nt r (.loop b) env D s Q := by
 intro n j
 induction j using Nat.strongRecOn generalizing n with
 | ind j ih =>
  intro env s hK hI T hT k hk;show (oracX P C X (n + j + c)).code r b T D s (fun x T D s => onOut x ((oracX P C X (n + j + c)).code r (.loop b) T D s k) (k x T D s) (fun _ => k x T D s) (fun _ => k x T D s)) = true;refine hb (n + j) (by omega) j env s hI T hT _ (fun x e T' D' s' hT' hq => ?_);cases x with
  | normal =>
   obtain ⟨rfl, j', e2, hlt, hl, hI'⟩ := hq;have e1 : n + j + c = (n + (j - j' - 1)) + j' + c + 1 := by omega
   show (oracX P C X (n + j + c)).code r (.loop b) T' D' s' k = true;rw [e1];exact ih j' hlt (n := n + (j - j' - 1)) (by omega) hI' T' (hT'.less hl) k hk
  | ret => exact hk _ _ T' D' s' hT' hq
  | exit i => exact hk _ _ T' D' s' hT' hq
  | goto i => exact hk _ _ T' D' s' hT' hq
theorem run_loop_in {b : CC} (I : Nat -> List (Nat × Value) -> St -> Prop) (c K L : Nat) (hb : ∀ n, K <= n -> ∀ j e s, I j e s -> RunE P C X (n + c) nt r b e D s (thenQ (fun e' D' s' => D' = D /\ ∃ j' e2, j' < j /\ Less e' e2 /\ I j' e2 s') Q))
 {j : Nat} {env2 : List (Nat × Value)} (hn : K + L <= n) (hj : j <= L) (hl : Less env env2) (hI : I j env2 s) : RunE P C X (n + c + 1) nt r (.loop b) env D s Q := by
 have := run_loop (P := P) (C := C) (X := X) (nt := nt) (r := r) (D := D) (Q := Q) I c K hb (n := n - j) (by omega) hI;rw [show n - j + j + c + 1 = n + c + 1 by omega] at this;exact this.less hl
end
/-! ## Calls -/
def argsE : Nat -> List Value -> List (Nat × Value)
 | _, [] => []
 | i, v :: l => (i, v) :: argsE (i + 1) l
theorem look_args {l : List Value} : ∀ {i t : Nat} {v : Value}, look (argsE i l) t = some v -> i <= t /\ t < i + l.length /\ l[t - i]? = some v := by
 induction l with
 | nil => intro i t v h; cases h
 | cons u l ih =>
  intro i t v h;simp only [argsE, look] at h;by_cases ht : i = t
  ·subst ht
   rw [show Nat.beq i i = true from by rw [Nat.beq_eq]] at h;cases h;exact ⟨Nat.le_refl _, by simp, by simp⟩
  ·rw [show Nat.beq i t = false from beqF ht] at h
   obtain ⟨h1, h2, h3⟩ := ih h;refine ⟨by omega, by simp; omega, ?_⟩;obtain ⟨q, hq⟩ : ∃ q, t - i = q + 1 := ⟨t - i - 1, by omega⟩;rw [hq, List.getElem?_cons_succ, <- h3]; congr 1; omega
theorem full_adds {α : Type} : ∀ {l : List α} {t : BT α} {n : Nat}, Full t n -> Full (BT.adds t n l) (n + l.length) := by
 intro l
 induction l with
 | nil => intro t n h; exact h
 | cons v l ih =>
  intro t n h;have key : ∀ {t : BT α} {n : Nat}, Full t n -> Full (t.add n v) (n + 1) := by
   intro t
   induction t with
   | leaf =>
    intro n h;have h0 : n = 0 := h;subst h0;exact ⟨by omega, by simp [Full], by simp [Full]⟩
   | node a l r il ir =>
    intro n h;obtain ⟨h0, hl, hr⟩ := h;simp only [BT.add];rw [if_neg h0];by_cases h1 : n % 2 = 1
    ·rw [if_pos h1]
     exact ⟨by omega, by rw [show (n + 1) / 2 = n / 2 + 1 by omega]; exact il hl, by rw [show (n + 1 - 1) / 2 = (n - 1) / 2 by omega]; exact hr⟩
    ·rw [if_neg h1]
     exact ⟨by omega, by rw [show (n + 1) / 2 = n / 2 by omega]; exact hl, by rw [show (n + 1 - 1) / 2 = n / 2 - 1 + 1 by omega]; exact ir (by rw [show n / 2 - 1 = (n - 1) / 2 by omega]; exact hr)⟩
  have := ih (key h);rw [show n + (v :: l).length = n + 1 + l.length by simp; omega];exact this
theorem full_full (n : Nat) : Full (full n) n := by
 have := full_adds (l := undefs n) (t := (.leaf : BT Value)) (n := 0) (by simp [Full]);have hl : ∀ n, (undefs n).length = n := fun n => by induction n with
  | zero => rfl
  | succ n ih => simp [undefs, ih]
 rw [hl, Nat.zero_add] at this;exact this
def ResE : List CRes -> List (Nat × Value) -> St -> List Value -> Prop
 | [], _, _, vs => vs = []
 | .tmp t :: l, env, s, vs => ∃ v vs', vs = v :: vs' /\ look env t = some v /\ ResE l env s vs'
 | .cell a none :: l, env, s, vs => ∃ b o v vs', vs = v :: vs' /\ look env a = some (.pointer (some ⟨b, o, none⟩)) /\ At s b o v /\ ResE l env s vs'
 | .cell a (some n) :: l, env, s, vs => ∃ b o r vs', vs = .agg ⟨r⟩ :: vs' /\ look env a = some (.pointer (some ⟨b, o, none⟩)) /\ r.length = n /\ n ≠ 0 /\ Ats s b o r /\ ResE l env s vs'
def one : List Value -> Value
 | [v] => v
 | l => .tuple ⟨l⟩
theorem oneK_of {l : List Value} {k : Value -> Bool} (h : k (one l) = true) : oneK l k = true := by
 rcases l with _ | ⟨v, _ | ⟨u, l⟩⟩ <;> exact h
theorem resK_of {nt : Nat} {T : BT Value} {env : List (Nat × Value)} {s : St} (hT : Cov nt T env) : ∀ {l : List CRes} {vs : List Value} {k : List Value -> Bool}, ResE l env s vs -> k vs = true -> resK s T l k = true
 | [], vs, k, h, hk => by
  have : vs = [] := h;subst this; exact hk
 | .tmp t :: l, vs, k, h, hk => by
  obtain ⟨v, vs', rfl, h1, h2⟩ := h;exact getK_of (k := fun v => resK s T l (fun l => k (v :: l))) (hT.2 t v h1) (resK_of hT (k := fun l => k (v :: l)) h2 hk)
 | .cell a none :: l, vs, k, h, hk => by
  obtain ⟨b, o, v, vs', rfl, h1, h2, h3⟩ := h;exact getK_of (k := fun a => ldK s none a (fun v => resK s T l (fun l => k (v :: l)))) (hT.2 a _ h1) (ldK_one h2 (resK_of hT (k := fun l => k (v :: l)) h3 hk))
 | .cell a (some n) :: l, vs, k, h, hk => by
  obtain ⟨b, o, r, vs', rfl, h1, h2, h0, h4, h3⟩ := h;exact getK_of (k := fun a => ldK s (some n) a (fun v => resK s T l (fun l => k (v :: l)))) (hT.2 a _ h1) (ldK_agg h4 h2 h0 (resK_of hT (k := fun l => k (.agg ⟨r⟩ :: l)) h3 hk))
def EndQ (res : List CRes) (Q : Value -> St -> Prop) : Out -> List (Nat × Value) -> List Nat -> St -> Prop
 | .normal, e, D, s => D = [] /\ ∃ vs, ResE res e s vs /\ Q (one vs) s
 | .ret, e, D, s => D = [] /\ ∃ vs, ResE res e s vs /\ Q (one vs) s
 | _, _, _, _ => False
theorem call_enter {P : Program} {C : Nat -> (CF -> Bool) -> Bool} {X : FuncId -> List Value -> St -> (Value -> St -> Bool) -> Bool} {n nt : Nat} {f : FuncId} {vs : List Value} {s : St} {Q : Value -> St -> Prop} {body : CC} {res : List CRes} (hC : ∀ k, k ⟨body, nt, res⟩ = true -> C f k = true) (hl : vs.length <= nt)
 (h : RunE P C X n nt none body (argsE 0 vs) [] s (EndQ res Q)) : CallQ P C X (n + 1) f vs s Q := fun k hk => by
 have key : callK C (oracX P C X n) f vs s k = true := by
  refine hC _ ?_;show ifB (Nat.ble (lenL vs) nt) (putsK (full nt) 0 vs (fun T => (oracX P C X n).code none body T [] s (fun x T D s => onOut x (endCallK res T D s k) (endCallK res T D s k) (fun _ => false) (fun _ => false)))) false = true;rw [lenL_eq, show Nat.ble vs.length nt = true from by rw [Nat.ble_eq]; exact hl];refine putsK_of (full_full nt) (by omega) (fun T hf hg => h T ⟨hf, fun t v hv => ?_⟩ _ (fun x e T' D' s' hT' hq => ?_))
  ·obtain ⟨h1, h2, h3⟩ := look_args hv
   rw [hg, if_pos ⟨h1, h2⟩]; exact h3
  ·have fin : D' = [] /\ (∃ vs, ResE res e s' vs /\ Q (one vs) s') -> endCallK res T' D' s' k = true := by
    rintro ⟨rfl, vs, h1, h2⟩;exact resK_of hT' (k := fun l => oneK l (fun v => k v s')) h1 (oneK_of (hk _ _ h2))
   cases x with
   | normal => exact fin hq
   | ret => exact fin hq
   | exit i => exact hq.elim
   | goto i => exact hq.elim
 show (X f vs s k || callK C (oracX P C X n) f vs s k) = true;rw [key, Bool.or_true]
theorem CallQ.mono {P : Program} {C : Nat -> (CF -> Bool) -> Bool} {X : FuncId -> List Value -> St -> (Value -> St -> Bool) -> Bool} {n : Nat} {f : FuncId} {vs : List Value} {s : St} {Q Q' : Value -> St -> Prop} (h : CallQ P C X n f vs s Q') (hq : ∀ v s, Q' v s -> Q v s) : CallQ P C X n f vs s Q := fun k hk => h k (fun v s' h' => hk v s' (hq v s' h'))
end
end Go.Proofs.Ytoeklhdklcpllaa.Ev
namespace Go.Proofs.Ytoeklhdklcpllaa.Ev
open Go Go.RowKit
noncomputable section
section
variable {P : Program} {C : Nat -> (CF -> Bool) -> Bool} {X : FuncId -> List Value -> St -> (Value -> St -> Bool) -> Bool} {n nt : Nat} {env : List (Nat × Value)} {s : St}
/-! ## Operations in a row -/
def wants (env : List (Nat × Value)) : Option (Nat × Bool) -> Option Bool
 | none => some true
 | some (t, w) => match look env t with
  | some (.bool b) => some (match b, w with | true, true | false, false => true | _, _ => false)
  | some (.tuple _) => some false
  | _ => none
theorem wants_yes {T : BT Value} (hT : Cov nt T env) {g : Option (Nat × Bool)} {y z : Bool} (h : wants env g = some true) (hy : y = true) : wantsK T g y z = true := by
 subst hy;rcases g with _ | ⟨t, w⟩
 ·rfl
 ·simp only [wants] at h
  split at h
  ·rename_i b hb
   refine getK_of (k := fun v => onBoolZ v (fun b => @Bool.rec (fun _ => Bool) (@Bool.rec (fun _ => Bool) true z w) (@Bool.rec (fun _ => Bool) z true w) b) z) (hT.2 t _ hb) ?_;cases b <;> cases w <;> first | rfl | (simp at h)
  ·cases h
  ·cases h
theorem wants_no {T : BT Value} (hT : Cov nt T env) {g : Option (Nat × Bool)} {y z : Bool} (h : wants env g = some false) (hz : z = true) : wantsK T g y z = true := by
 subst hz;rcases g with _ | ⟨t, w⟩
 ·simp [wants] at h
 ·simp only [wants] at h
  split at h
  ·rename_i b hb
   refine getK_of (k := fun v => onBoolZ v (fun b => @Bool.rec (fun _ => Bool) (@Bool.rec (fun _ => Bool) y true w) (@Bool.rec (fun _ => Bool) true y w) b) true) (hT.2 t _ hb) ?_;cases b <;> cases w <;> first | rfl | (simp at h)
  ·rename_i a ha
   exact getK_of (k := fun v => onBoolZ v (fun b => @Bool.rec (fun _ => Bool) (@Bool.rec (fun _ => Bool) y true w) (@Bool.rec (fun _ => Bool) true y w) b) true) (hT.2 t _ ha) rfl
  ·cases h
variable {Q : List (Nat × Value) -> St -> Prop}
theorem it_nil (h : Q env s) : ItE P C X n nt [] env s Q := fun T hT k hk => hk env T s hT h
theorem it_op {g : Option (Nat × Bool)} {d : Nat} {c : COp} {l : List Item} (hg : wants env g = some true) (hd : okD (some d) nt = true) (h : OpE P C X n nt c env s (fun v s' => ItE P C X n nt l ((d, v) :: env) s' Q)) : ItE P C X n nt (⟨g, some d, c⟩ :: l) env s Q := fun T hT k hk => by
 show wantsK T g (runAnyK P (oracX P C X n) T s c (fun v s => putTK T (some d) v (fun T => itemsK P (oracX P C X n) l T s k))) (putTK T (some d) undef (fun T => itemsK P (oracX P C X n) l T s k)) = true;exact wants_yes hT hg (h T hT _ (fun v s' hl => putTK_of hT hd (fun T' hT' => hl T' hT' k hk)))
theorem it_opn {g : Option (Nat × Bool)} {c : COp} {l : List Item} (hg : wants env g = some true) (h : OpE P C X n nt c env s (fun _ s' => ItE P C X n nt l env s' Q)) : ItE P C X n nt (⟨g, none, c⟩ :: l) env s Q := fun T hT k hk => by
 show wantsK T g (runAnyK P (oracX P C X n) T s c (fun v s => putTK T none v (fun T => itemsK P (oracX P C X n) l T s k))) (putTK T none undef (fun T => itemsK P (oracX P C X n) l T s k)) = true;exact wants_yes hT hg (h T hT _ (fun v s' hl => hl T hT k hk))
theorem it_no {g : Option (Nat × Bool)} {d : Nat} {c : COp} {l : List Item} (hg : wants env g = some false) (hd : okD (some d) nt = true) (h : ItE P C X n nt l ((d, undef) :: env) s Q) : ItE P C X n nt (⟨g, some d, c⟩ :: l) env s Q := fun T hT k hk => by
 show wantsK T g (runAnyK P (oracX P C X n) T s c (fun v s => putTK T (some d) v (fun T => itemsK P (oracX P C X n) l T s k))) (putTK T (some d) undef (fun T => itemsK P (oracX P C X n) l T s k)) = true;exact wants_no hT hg (putTK_of hT hd (fun T' hT' => h T' hT' k hk))
end
section
variable {P : Program} {C : Nat -> (CF -> Bool) -> Bool} {X : FuncId -> List Value -> St -> (Value -> St -> Bool) -> Bool} {n nt : Nat} {env : List (Nat × Value)} {s : St} {R : Value -> St -> Prop}
/-! ## The operations -/
theorem o_mov {x : Ev.X} {v : Value} (hx : xv env x = some v) (h : R v s) : OpE P C X n nt (.mov x) env s R := fun T hT k hk => Y6 hT (k := vK s k) hx (hk _ _ h)
theorem o_pick_t {c a b : Ev.X} {v u : Value} (hc : xv env c = some (.bool true)) (ha : xv env a = some v) (hb : xv env b = some u) (h : R v s) : OpE P C X n nt (.pick c a b) env s R := fun T hT k hk =>
 Y6 hT (k := fun c => valK T a (fun a => valK T b (fun b => pickK c a b (vK s k)))) hc (Y6 hT (k := fun a => valK T b (fun b => pickK (.bool true) a b (vK s k))) ha (Y6 hT (k := fun b => pickK (.bool true) v b (vK s k)) hb (hk _ _ h)))
theorem o_pick_f {c a b : Ev.X} {v u : Value} (hc : xv env c = some (.bool false)) (ha : xv env a = some v) (hb : xv env b = some u) (h : R u s) : OpE P C X n nt (.pick c a b) env s R := fun T hT k hk =>
 Y6 hT (k := fun c => valK T a (fun a => valK T b (fun b => pickK c a b (vK s k)))) hc (Y6 hT (k := fun a => valK T b (fun b => pickK (.bool false) a b (vK s k))) ha (Y6 hT (k := fun b => pickK (.bool false) v b (vK s k)) hb (hk _ _ h)))
/-! Memory. -/
def fullB {α : Type} : BT α -> Nat -> Bool
 | .leaf, n => Nat.beq n 0
 | .node _ l r, n => !Nat.beq n 0 && fullB l (n / 2) && fullB r ((n - 1) / 2)
theorem fullB_eq {α : Type} : ∀ {t : BT α} {n : Nat}, fullB t n = true -> Full t n
 | .leaf, n, h => by show n = 0; simpa [fullB] using h
 | .node _ l r, n, h => by
  simp only [fullB, Bool.and_eq_true, Bool.not_eq_true', beq0, decide_eq_false_iff_not] at h;exact ⟨h.1.1, fullB_eq h.1.2, fullB_eq h.2⟩
def firstN {α : Type} (t : BT α) : Nat -> Nat -> Option (List α)
 | _, 0 => some []
 | i, n + 1 => match t.get i, firstN t (i + 1) n with
  | some v, some l => some (v :: l)
  | _, _ => none
theorem firstN_eq {α : Type} {t : BT α} : ∀ {n i : Nat} {l : List α}, firstN t i n = some l -> l.length = n /\ ∀ j, j < n -> t.get (i + j) = l[j]?
 | 0, i, l, h => by cases h; exact ⟨rfl, fun j hj => absurd hj (Nat.not_lt_zero j)⟩
 | n + 1, i, l, h => by
  simp only [firstN] at h;split at h
  ·rename_i v l' h1 h2
   cases h;obtain ⟨h3, h4⟩ := firstN_eq h2;refine ⟨by simp [h3], fun j hj => ?_⟩;cases j with
   | zero => exact h1
   | succ j => rw [List.getElem?_cons_succ, <- h4 j (by omega)]; congr 1; omega
  ·cases h
theorem o_new {e m : Nat} {z : BT Value} {l : List Value} (hw : Wf s) (hf : fullB z m = true) (hz : firstN z 0 m = some l) (h : ∀ s', Ext s s' -> s'.n = s.n + 1 -> Obj s' s.n e false l -> R (ptr s.n) s') : OpE P C X n nt (.new e m z) env s R := fun T hT k hk => by
 show nOf s (fun g => newK s (.cells m z e false) (k (ptr g))) = true;obtain ⟨h1, h2⟩ := firstN_eq hz;have hf' := fullB_eq hf;refine nOf_of (newRow_of h1.symm hw (by rw [h1]; exact hf') (fun j => ?_) (fun s' a b c => hk _ _ (h s' a b c)));rcases Nat.lt_or_ge j m with hj | hj
 ·have := h2 j hj; simpa using this
 ·rw [hf'.none j hj, List.getElem?_eq_none (by omega)]
theorem o_box {e : Nat} {x : Ev.X} {v : Value} {l : List Value} (hw : Wf s) (hx : xv env x = some v) (hc : v.cells = ⟨l⟩) (h1 : allOne l = true) (h : ∀ s', Ext s s' -> s'.n = s.n + 1 -> Obj s' s.n e false l -> R (ptr s.n) s') : OpE P C X n nt (.box e x) env s R := fun T hT k hk => by
 refine Y6 hT (k := fun v => boxK s e v k) hx ?_;unfold boxK;refine nOf_of ?_;rw [forceV_eq, hc];show ifB (allOne l) (forceN (lenL l) (fun m => addsK .leaf 0 l (fun c => newK s (.cells m c e false) (k (ptr s.n))))) false = true;rw [h1, forceN_eq];exact rowOfList (fun c hf hg => newRow_of (lenL_eq l) hw hf hg (fun s' a b c => hk _ _ (h s' a b c)))
theorem o_ld {a : Ev.X} {b off : Nat} {v : Value} (ha : xv env a = some (.pointer (some ⟨b, off, none⟩))) (hv : At s b off v) (h : R v s) : OpE P C X n nt (.ld a none) env s R := fun T hT k hk =>
 Y6 hT (k := fun a => ldK s none a (vK s k)) ha (ldK_one hv (hk _ _ h))
theorem o_lda {a : Ev.X} {b off m : Nat} {l : List Value} (ha : xv env a = some (.pointer (some ⟨b, off, none⟩))) (hv : Ats s b off l) (hm : l.length = m) (h0 : m ≠ 0) (h : R (.agg ⟨l⟩) s) : OpE P C X n nt (.ld a (some m)) env s R := fun T hT k hk =>
 Y6 hT (k := fun a => ldK s (some m) a (vK s k)) ha (ldK_agg hv hm h0 (hk _ _ h))
theorem o_st {a x : Ev.X} {b off e : Nat} {op : Bool} {v : Value} {l : List Value} (hw : Wf s) (ha : xv env a = some (.pointer (some ⟨b, off, none⟩))) (hx : xv env x = some v) (ho : Obj s b e op l) (hlt : off < l.length) (h1 : oneCell v = true)
 (h : ∀ s', Mod s s' [b] -> s'.n = s.n -> Obj s' b e op (l.set off v) -> R undef s') : OpE P C X n nt (.st a x none) env s R := fun T hT k hk =>
 Y6 hT (k := fun a => valK T x (fun x => stK s none x a (k undef))) ha (Y6 hT (k := fun x => stK s none x _ (k undef)) hx (stK_one hw ho hlt h1 (fun s' a b c => hk _ _ (h s' a b c))))
theorem o_sta {a x : Ev.X} {b off e m : Nat} {op : Bool} {r l : List Value} (hw : Wf s) (ha : xv env a = some (.pointer (some ⟨b, off, none⟩))) (hx : xv env x = some (.agg ⟨r⟩)) (ho : Obj s b e op l) (hlt : off + m <= l.length) (hm : r.length = m) (h1 : allOne r = true)
 (h : ∀ s', Mod s s' [b] -> s'.n = s.n -> Obj s' b e op (over l off r) -> R undef s') : OpE P C X n nt (.st a x (some m)) env s R := fun T hT k hk =>
 Y6 hT (k := fun a => valK T x (fun x => stK s (some m) x a (k undef))) ha (Y6 hT (k := fun x => stK s (some m) x _ (k undef)) hx (stK_agg hw ho hlt hm h1 (fun s' a b c => hk _ _ (h s' a b c))))
theorem o_again {a : Ev.X} {d b off : Nat} {v : Value} (ha : xv env a = some (.pointer (some ⟨b, off, none⟩))) (hd : look env d = some v) (hv : At s b off v) (he : eqV v v = true) (h : R undef s) : OpE P C X n nt (.again a none d) env s R := fun T hT k hk =>
 Y6 hT (k := fun a => valK T (.t d) (fun d => againK s none a d k)) ha (Y6 (x := .t d) hT (k := fun d => againK s none _ d k) hd (ldK_one (k := fun u => ifB (eqV u v) (k undef s) false) hv (by show ifB (eqV v v) (k undef s) false = true; rw [he]; exact hk _ _ h)))
theorem o_againa {a : Ev.X} {d b off m : Nat} {l : List Value} (ha : xv env a = some (.pointer (some ⟨b, off, none⟩))) (hd : look env d = some (.agg ⟨l⟩)) (hv : Ats s b off l) (hm : l.length = m) (h0 : m ≠ 0) (he : eqL l l = true) (h : R undef s) : OpE P C X n nt (.again a (some m) d) env s R := fun T hT k hk =>
 Y6 hT (k := fun a => valK T (.t d) (fun d => againK s (some m) a d k)) ha (Y6 (x := .t d) hT (k := fun d => againK s (some m) _ d k) hd (ldK_agg (k := fun u => ifB (eqV u (.agg ⟨l⟩)) (k undef s) false) hv hm h0 (by show ifB (eqL l l) (k undef s) false = true; rw [he]; exact hk _ _ h)))
theorem o_fa {x : Ev.X} {b o off : Nat} (hx : xv env x = some (.pointer (some ⟨b, o, none⟩))) (h : R (.pointer (some ⟨b, o + off, none⟩)) s) : OpE P C X n nt (.fa x off) env s R := fun T hT k hk =>
 Y6 hT (k := fun x => faK x off (vK s k)) hx (by show forceN (Nat.add o off) (fun o => vK s k (.pointer (some ⟨b, o, none⟩))) = true; rw [forceN_eq]; exact hk _ _ h)
theorem o_ia {x i : Ev.X} {b o m c j size : Nat} {ik : IntKind} {z : Int} (hx : xv env x = some (.slice (some ⟨b, o, none⟩) m c)) (hi : xv env i = some (.int ik z)) (hz : z = (j : Int)) (hj : j < m) (h : R (.pointer (some ⟨b, o + j * size, none⟩)) s) : OpE P C X n nt (.ia x i size) env s R := fun T hT k hk => by
 subst hz;refine Y6 hT (k := fun x => valK T i (fun i => iaK x i size (vK s k))) hx (Y6 hT (k := fun i => iaK _ i size (vK s k)) hi ?_);show ifB (Nat.blt j m) (forceN (Nat.add o (Nat.mul j size)) (fun o => vK s k (.pointer (some ⟨b, o, none⟩)))) false = true;rw [show Nat.blt j m = true from by rw [Nat.blt_eq]; exact hj, forceN_eq];exact hk _ _ h
theorem o_iaa {x i : Ev.X} {b o m j size : Nat} {ik : IntKind} {z : Int} (hx : xv env x = some (.pointer (some ⟨b, o, none⟩))) (hi : xv env i = some (.int ik z)) (hz : z = (j : Int)) (hj : j < m) (h : R (.pointer (some ⟨b, o + j * size, none⟩)) s) : OpE P C X n nt (.iaa x i m size) env s R := fun T hT k hk => by
 subst hz;refine Y6 hT (k := fun x => valK T i (fun i => iaaK x i m size (vK s k))) hx (Y6 hT (k := fun i => iaaK _ i m size (vK s k)) hi ?_);show ifB (Nat.blt j m) (forceN (Nat.add o (Nat.mul j size)) (fun o => vK s k (.pointer (some ⟨b, o, none⟩)))) false = true;rw [show Nat.blt j m = true from by rw [Nat.blt_eq]; exact hj, forceN_eq];exact hk _ _ h
theorem o_nilc {x : Ev.X} {a : Addr} (hx : xv env x = some (.pointer (some a))) (h : R (.pointer (some a)) s) : OpE P C X n nt (.nilc x) env s R := fun T hT k hk => Y6 hT (k := fun v => nilcK v (vK s k)) hx (hk _ _ h)
theorem o_len {x : Ev.X} {a : Option Addr} {m c : Nat} (hx : xv env x = some (.slice a m c)) (ha : ∀ b, a = some b -> b.spot = none) (h : R (.int .i64 (m : Int)) s) : OpE P C X n nt (.len x) env s R := fun T hT k hk => by
 refine Y6 hT (k := fun x => onSlice x (fun n _ => k (.int .i64 (.ofNat n)) s) (fun _ _ n _ => k (.int .i64 (.ofNat n)) s)) hx ?_;rcases a with _ | ⟨b, o, sp⟩
 ·exact hk _ _ h
 ·have : sp = none := ha _ rfl
  subst this;exact hk _ _ h
theorem o_ext {x : Ev.X} {l : List Value} {i : Nat} {v : Value} (hx : xv env x = some (.tuple ⟨l⟩)) (hi : l[i]? = some v) (h : R v s) : OpE P C X n nt (.ext x i) env s R := fun T hT k hk => by
 refine Y6 hT (k := fun x => onTuple x (fun l => nthK l i (vK s k))) hx ?_;have key : ∀ {l : List Value} {i : Nat}, l[i]? = some v -> nthK l i (vK s k) = true := by
  intro l
  induction l with
  | nil => intro i h; simp at h
  | cons u l ih =>
   intro i hi;cases i with
   | zero => simp at hi; subst hi; exact hk _ _ h
   | succ i => exact ih (by simpa using hi)
 exact key hi
theorem o_fn {f : Nat} {p c : List Ev.X} {ps cs : List Value} (hp : xvs env p = some ps) (hc : xvs env c = some cs) (h : R (.func (.func f) ⟨ps⟩ ⟨cs⟩) s) : OpE P C X n nt (.fn f p c) env s R := fun T hT k hk =>
 valsE_of hT (k := fun p => valsK T c (fun c => k (.func (.func f) ⟨p⟩ ⟨c⟩) s)) hp (valsE_of hT (k := fun c => k (.func (.func f) ⟨ps⟩ ⟨c⟩) s) hc (hk _ _ h))
/-! Numbers. -/
theorem o_bin {b : BinOp} {t d : Nat} {x y : Ev.X} {u v r : Value} (hx : xv env x = some u) (hy : xv env y = some v) (hr : evBin P b t d u v = some r) (h : R r s) : OpE P C X n nt (.bin b t d x y) env s R := fun T hT k hk => by
 refine Y6 hT (k := fun x => valK T y (fun y => binK P b t d x y (vK s k))) hx (Y6 hT (k := fun y => binK P b t d u y (vK s k)) hy ?_);unfold binK;rw [hr];show forceV r _ = true;rw [forceV_eq]; exact hk _ _ h
theorem kindEq_refl (k : IntKind) : kindEq k k = true := by cases k <;> rfl
theorem evBin_int {b : BinOp} {t d : Nat} {k : IntKind} {m q : Int} {r : Value} (h : intBin b k m q = some r) : evBin P b t d (.int k m) (.int k q) = some r := by
 simp only [evBin, kindEq_refl, h]; rfl
theorem o_add {t d : Nat} {x y : Ev.X} {a b : Int} (hx : xv env x = some (.int .i64 a)) (hy : xv env y = some (.int .i64 b)) (hr : -9223372036854775808 <= a + b /\ a + b < 9223372036854775808) (h : R (.int .i64 (a + b)) s) : OpE P C X n nt (.bin .add t d x y) env s R :=
 o_bin hx hy (evBin_int (by simp only [intBin, wrapq_eq]; rw [IntWalk.i64_in _ (by omega)])) h
theorem o_sub {t d : Nat} {x y : Ev.X} {a b : Int} (hx : xv env x = some (.int .i64 a)) (hy : xv env y = some (.int .i64 b)) (hr : -9223372036854775808 <= a - b /\ a - b < 9223372036854775808) (h : R (.int .i64 (a - b)) s) : OpE P C X n nt (.bin .sub t d x y) env s R :=
 o_bin hx hy (evBin_int (by simp only [intBin, wrapq_eq]; rw [IntWalk.i64_in _ (by omega)])) h
theorem o_rem {t d : Nat} {x y : Ev.X} {a b : Int} (hx : xv env x = some (.int .i64 a)) (hy : xv env y = some (.int .i64 b)) (h0 : b ≠ 0) (h : R (.int .i64 (a.tmod b)) s) : OpE P C X n nt (.bin .rem t d x y) env s R :=
 o_bin hx hy (evBin_int (by simp only [intBin, intEq_eq]; rw [show (b == 0) = false from by simpa using h0]; rfl)) h
theorem o_lss {t d : Nat} {x y : Ev.X} {k : IntKind} {a b : Int} (hx : xv env x = some (.int k a)) (hy : xv env y = some (.int k b)) (h1 : a < b -> R (.bool true) s) (h2 : ¬ a < b -> R (.bool false) s) : OpE P C X n nt (.bin .lss t d x y) env s R := by
 by_cases h : a < b
 ·exact o_bin hx hy (evBin_int (by simp only [intBin, intLt_eq]; rw [decide_eq_true h])) (h1 h)
 ·exact o_bin hx hy (evBin_int (by simp only [intBin, intLt_eq]; rw [decide_eq_false h])) (h2 h)
theorem o_gtr {t d : Nat} {x y : Ev.X} {k : IntKind} {a b : Int} (hx : xv env x = some (.int k a)) (hy : xv env y = some (.int k b)) (h1 : b < a -> R (.bool true) s) (h2 : ¬ b < a -> R (.bool false) s) : OpE P C X n nt (.bin .gtr t d x y) env s R := by
 by_cases h : b < a
 ·exact o_bin hx hy (evBin_int (by simp only [intBin, intLt_eq]; rw [decide_eq_true h])) (h1 h)
 ·exact o_bin hx hy (evBin_int (by simp only [intBin, intLt_eq]; rw [decide_eq_false h])) (h2 h)
theorem o_leq {t d : Nat} {x y : Ev.X} {k : IntKind} {a b : Int} (hx : xv env x = some (.int k a)) (hy : xv env y = some (.int k b)) (h1 : a <= b -> R (.bool true) s) (h2 : ¬ a <= b -> R (.bool false) s) : OpE P C X n nt (.bin .leq t d x y) env s R := by
 by_cases h : a <= b
 ·exact o_bin hx hy (evBin_int (by simp only [intBin, intLt_eq]; rw [decide_eq_false (by omega)]; rfl)) (h1 h)
 ·exact o_bin hx hy (evBin_int (by simp only [intBin, intLt_eq]; rw [decide_eq_true (by omega)]; rfl)) (h2 h)
theorem o_geq {t d : Nat} {x y : Ev.X} {k : IntKind} {a b : Int} (hx : xv env x = some (.int k a)) (hy : xv env y = some (.int k b)) (h1 : b <= a -> R (.bool true) s) (h2 : ¬ b <= a -> R (.bool false) s) : OpE P C X n nt (.bin .geq t d x y) env s R := by
 by_cases h : b <= a
 ·exact o_bin hx hy (evBin_int (by simp only [intBin, intLt_eq]; rw [decide_eq_false (by omega)]; rfl)) (h1 h)
 ·exact o_bin hx hy (evBin_int (by simp only [intBin, intLt_eq]; rw [decide_eq_true (by omega)]; rfl)) (h2 h)
theorem o_eql {t d : Nat} {x y : Ev.X} {k : IntKind} {a b : Int} (hx : xv env x = some (.int k a)) (hy : xv env y = some (.int k b)) (h1 : a = b -> R (.bool true) s) (h2 : ¬ a = b -> R (.bool false) s) : OpE P C X n nt (.bin .eql t d x y) env s R := by
 by_cases h : a = b
 ·exact o_bin hx hy (evBin_int (by simp only [intBin, intEq_eq]; rw [beq_iff_eq.2 h])) (h1 h)
 ·exact o_bin hx hy (evBin_int (by simp only [intBin, intEq_eq]; rw [beq_eq_false_iff_ne.2 h])) (h2 h)
theorem o_neq {t d : Nat} {x y : Ev.X} {k : IntKind} {a b : Int} (hx : xv env x = some (.int k a)) (hy : xv env y = some (.int k b)) (h1 : ¬ a = b -> R (.bool true) s) (h2 : a = b -> R (.bool false) s) : OpE P C X n nt (.bin .neq t d x y) env s R := by
 by_cases h : a = b
 ·exact o_bin hx hy (evBin_int (by simp only [intBin, intEq_eq]; rw [beq_iff_eq.2 h]; rfl)) (h2 h)
 ·exact o_bin hx hy (evBin_int (by simp only [intBin, intEq_eq]; rw [beq_eq_false_iff_ne.2 h]; rfl)) (h1 h)
theorem oK_of {r : Option Value} {v : Value} {k : Value -> St -> Bool} (hr : r = some v) (hk : k v s = true) : oK s k r = true := by
 subst hr;exact oK_some hk
theorem o_un {u : UnOp} {x : Ev.X} {v r : Value} (hx : xv env x = some v) (hr : ev1 P (Op.unary u) v = some r) (h : R r s) : OpE P C X n nt (.un u x) env s R := fun T hT k hk =>
 Y6 hT (k := fun x => oK s k (ev1 P (Op.unary u) x)) hx (oK_of hr (hk _ _ h))
theorem o_conv {a b : Nat} {x : Ev.X} {v r : Value} (hx : xv env x = some v) (hr : ev1 P (convert a b) v = some r) (h : R r s) : OpE P C X n nt (.conv a b x) env s R := fun T hT k hk =>
 Y6 hT (k := fun x => oK s k (ev1 P (convert a b) x)) hx (oK_of hr (hk _ _ h))
theorem o_bi {b : Builtin} {ts : Array Nat} {t : Nat} {l : List Ev.X} {vs : List Value} {r : Value} (hx : xvs env l = some vs) (hr : evBi P b ts t vs = some r) (h : R r s) : OpE P C X n nt (.bi b ts t l) env s R := fun T hT k hk =>
 valsE_of hT (k := fun l => oK s k (evBi P b ts t l)) hx (oK_of hr (hk _ _ h))
/-! Calls. -/
theorem o_call {f : Ev.X} {l : List Ev.X} {g : Nat} {p c vs : List Value} (hf : xv env f = some (.func (.func g) ⟨p⟩ ⟨c⟩)) (hl : xvs env l = some vs) (h : CallQ P C X n g (p ++ (vs ++ c)) s R) : OpE P C X n nt (.call f l) env s R := fun T hT k hk => by
 show valK T f (fun f => valsK T l (fun l => callVK (oracX P C X n) s l f k)) = true;refine Y6 hT (k := fun f => valsK T l (fun l => callVK (oracX P C X n) s l f k)) hf (valsE_of hT (k := fun l => callVK (oracX P C X n) s l (.func (.func g) ⟨p⟩ ⟨c⟩) k) hl ?_);show (oracX P C X n).call g (appL p (appL vs c)) s k = true;rw [appL_eq, appL_eq];exact h k hk
end
end
end Go.Proofs.Ytoeklhdklcpllaa.Ev
