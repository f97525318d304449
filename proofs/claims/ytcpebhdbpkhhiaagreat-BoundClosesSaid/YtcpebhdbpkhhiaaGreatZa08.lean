import Derived.Test.YtcpebhdbpkhhiaaGreatZa07
set_option linter.unusedVariables false
set_option linter.unusedSimpArgs false
/- The evaluator's small steps hand on one value each. No program here. -/
namespace Go.Proofs.YtcpebhdbpkhhiaaGreat.Ev
open Go Go.RowKit

theorem Par.map {α β : Type} {F : (α → Bool) → Bool} (hF : Par F) (f : α → β) : Par (fun k => F (fun a => k (f a))) := Par.bind hF (fun a => Par.ret (f a))
theorem Par.upd {α : Type} {v : α} : ∀ {t : BT α} {n : Nat}, Par (fun k => updK t n v k)
  | .leaf, n => Par.no
  | .node a l r, n => by
    have h0 : (fun k => updK (.node a l r) n v k) = (fun k => Ev.ifB (Nat.beq n 0) (k (.node v l r)) (Ev.ifB (Nat.beq (Nat.mod n 2) 1) (updK l (Nat.div n 2) v (fun l => k (.node a l r))) (updK r (Nat.pred (Nat.div n 2)) v (fun r => k (.node a l r))))) := rfl
    rw [h0]
    exact Par.ifB (Par.ret _) (Par.ifB (Par.map Par.upd _) (Par.map Par.upd _))
theorem Par.add {α : Type} {v : α} : ∀ {t : BT α} {n : Nat}, Par (fun k => addK t n v k)
  | .leaf, n => by
    have h0 : (fun k => addK .leaf n v k) = (fun k => Ev.ifB (Nat.beq n 0) (k (.node v .leaf .leaf)) false) := rfl
    rw [h0]
    exact Par.ifB (Par.ret _) Par.no
  | .node a l r, n => by
    have h0 : (fun k => addK (.node a l r) n v k) = (fun k => Ev.ifB (Nat.beq n 0) false (Ev.ifB (Nat.beq (Nat.mod n 2) 1) (addK l (Nat.div n 2) v (fun l => k (.node a l r))) (addK r (Nat.pred (Nat.div n 2)) v (fun r => k (.node a l r))))) := rfl
    rw [h0]
    exact Par.ifB Par.no (Par.ifB (Par.map Par.add _) (Par.map Par.add _))
theorem Par.puts {α : Type} : ∀ {l : List α} {t : BT α} {n : Nat}, Par (fun k => putsK t n l k)
  | [], t, n => Par.ret t
  | v :: l, t, n => Par.bind (F := fun k => updK t n v k) (G := fun t k => putsK t (Nat.succ n) l k) Par.upd (fun _ => Par.puts)
theorem Par.adds {α : Type} : ∀ {l : List α} {t : BT α} {n : Nat}, Par (fun k => addsK t n l k)
  | [], t, n => Par.ret t
  | v :: l, t, n => Par.bind (F := fun k => addK t n v k) (G := fun t k => addsK t (Nat.succ n) l k) Par.add (fun _ => Par.adds)
theorem Par.seg {α : Type} {t : BT α} : ∀ {n i : Nat}, Par (fun k => segK t i n k)
  | 0, i => Par.ret []
  | n + 1, i => Par.bind (F := fun k => getK t i k) (G := fun v k => segK t (Nat.succ i) n (fun l => k (v :: l))) Par.get (fun v => Par.map Par.seg _)
theorem Par.val {T : BT Value} {x : X} : Par (fun k => valK T x k) := by
  cases x with
  | t i => exact Par.get
  | c v => exact Par.ret v
theorem Par.vals {T : BT Value} : ∀ {l : List X}, Par (fun k => valsK T l k)
  | [] => Par.ret []
  | x :: l => Par.bind (F := fun k => valK T x k) (G := fun v k => valsK T l (fun l => k (v :: l))) Par.val (fun v => Par.map Par.vals _)
theorem Par.parts {T : BT Value} : ∀ {l : List (Nat × Nat × X)}, Par (fun k => partsK T l k)
  | [] => Par.ret []
  | (o, n, x) :: l => Par.bind (F := fun k => valK T x k) (G := fun v k => partsK T l (fun l => k ((o, n, v) :: l))) Par.val (fun v => Par.map Par.parts _)
theorem Par.valO {T : BT Value} {x : Option X} : Par (fun k => valOK T x k) := by
  cases x with
  | none => exact Par.ret none
  | some x => exact Par.map Par.val some
section
variable {β : Type}
theorem Par.ptr {v : Value} {G : Nat → Nat → (β → Bool) → Bool} (hG : ∀ b o, Par (G b o)) : Par (fun k => onPtr v (fun b o => G b o k)) := by
  cases v with
  | pointer a => rcases a with _ | ⟨b, o, _ | _⟩ <;> first | exact Par.no | exact hG b o
  | _ => exact Par.no
theorem Par.slice {v : Value} {Z : Nat → Nat → (β → Bool) → Bool} {G : Nat → Nat → Nat → Nat → (β → Bool) → Bool} (hZ : ∀ n c, Par (Z n c)) (hG : ∀ b o n c, Par (G b o n c)) : Par (fun k => onSlice v (fun n c => Z n c k) (fun b o n c => G b o n c k)) := by
  cases v with
  | slice a n c => rcases a with _ | ⟨b, o, _ | _⟩ <;> first | exact Par.no | exact hG b o n c | exact hZ n c
  | _ => exact Par.no
theorem Par.int {v : Value} {G : IntKind → Int → (β → Bool) → Bool} {Z : (β → Bool) → Bool} (hG : ∀ i n, Par (G i n)) (hZ : Par Z) : Par (fun k => onInt v (fun i n => G i n k) (Z k)) := by
  cases v with
  | int i n => exact hG i n
  | _ => exact hZ
theorem Par.nat {v : Value} {G : Nat → (β → Bool) → Bool} (hG : ∀ n, Par (G n)) : Par (fun k => onNat v (fun n => G n k)) := by
  cases v with
  | int i n => cases n with
    | ofNat n => exact hG n
    | negSucc n => exact Par.no
  | _ => exact Par.no
theorem Par.bool {v : Value} {G : Bool → (β → Bool) → Bool} (hG : ∀ b, Par (G b)) : Par (fun k => onBool v (fun b => G b k)) := by
  cases v with
  | bool b => exact hG b
  | _ => exact Par.no
theorem Par.agg {v : Value} {G : List Value → (β → Bool) → Bool} (hG : ∀ l, Par (G l)) : Par (fun k => onAgg v (fun l => G l k)) := by
  cases v with
  | agg a => exact hG a.toList
  | _ => exact Par.no
theorem Par.tuple {v : Value} {G : List Value → (β → Bool) → Bool} (hG : ∀ l, Par (G l)) : Par (fun k => onTuple v (fun l => G l k)) := by
  cases v with
  | tuple a => exact hG a.toList
  | _ => exact Par.no
theorem Par.row {s : St} {b : Nat} {G : Nat → BT Value → Nat → Bool → (β → Bool) → Bool} (hG : ∀ n c e o, Par (G n c e o)) : Par (fun k => rowK s b (fun n c e o => G n c e o k)) :=
  Par.bind (F := fun k => objK s b k) (G := fun o k => @CObj.casesOn (fun _ => Bool) o false (fun n c e o => G n c e o k) (fun _ _ _ _ _ _ _ => false) (fun _ => false) (fun _ => false) (fun _ => false)) Par.get (fun o => by
    cases o with
    | cells n c e o => exact hG n c e o
    | _ => exact Par.no)
end
theorem Par.see {β : Type} {s : St} {b : Nat} {G : BT Value → (β → Bool) → Bool} {H : (Nat → Option Value) → (β → Bool) → Bool} (hG : ∀ c, Par (G c)) (hH : ∀ g, Par (H g)) : Par (fun k => seeK s b (fun c => G c k) (fun g => H g k)) :=
  Par.bind (F := fun k => objK s b k) (G := fun o k => @CObj.casesOn (fun _ => Bool) o false (fun _ c _ _ => G c k) (fun _ _ _ _ _ _ _ => false) (fun _ => false) (fun _ => false) (fun g => H g k)) Par.get (fun o => by
    cases o with
    | cells n c e o => exact hG c
    | rom g => exact hH g
    | _ => exact Par.no)
theorem Par.romSeg {g : Nat → Option Value} : ∀ {n i : Nat}, Par (fun k => romSegK g i n k)
  | 0, i => Par.ret []
  | n + 1, i => Par.bind (F := fun k => optK (g i) k) (G := fun v k => romSegK g (Nat.succ i) n (fun l => k (v :: l))) (Par.opt (g i)) (fun v => Par.map Par.romSeg _)
theorem Par.romCut {g : Nat → Option Value} {off : Nat} {n : Option Nat} : Par (fun k => romCutK g off n k) := by
  cases n with
  | none => exact Par.opt _
  | some n => exact Par.map Par.romSeg _
theorem Par.cut {c : BT Value} {off : Nat} {n : Option Nat} : Par (fun k => cutK c off n k) := by
  cases n with
  | none => exact Par.get
  | some n => exact Par.map Par.seg _
theorem Par.ld {s : St} {n : Option Nat} {v : Value} : Par (fun k => ldK s n v k) := Par.ptr (fun _ _ => Par.see (fun _ => Par.cut) (fun _ => Par.romCut))
theorem Par.nth : ∀ {l : List Value} {i : Nat}, Par (fun k => nthK l i k)
  | [], i => Par.no
  | v :: l, 0 => Par.ret v
  | v :: l, i + 1 => Par.nth (l := l) (i := i)
theorem Par.new {s : St} {o : CObj} : Par (fun k => newK s o k) := by
  obtain ⟨h0, n⟩ := s
  have e : (fun k => newK ⟨h0, n⟩ o k) = (fun k => addK h0 n o (fun h => k (⟨h, Nat.succ n⟩ : St))) := by
    funext k
    show addK h0 n o (fun h => forceN (Nat.succ n) (fun m => k (⟨h, m⟩ : St))) = _
    simp only [forceN_eq]
  rw [e]
  exact Par.map Par.add _
end Go.Proofs.YtcpebhdbpkhhiaaGreat.Ev

/- Operations that neither call nor write hand on one value each. No program here. -/
namespace Go.Proofs.YtcpebhdbpkhhiaaGreat.Ev
open Go Go.RowKit

section
variable {P : Program} {T : BT Value} {s : St}
theorem Par.valB {β : Type} {x : X} {G : Value → (β → Bool) → Bool} (hG : ∀ v, Par (G v)) : Par (fun k => valK T x (fun v => G v k)) := Par.bind (F := fun k => valK T x k) Par.val hG
theorem Par.valsB {β : Type} {x : List X} {G : List Value → (β → Bool) → Bool} (hG : ∀ v, Par (G v)) : Par (fun k => valsK T x (fun v => G v k)) := Par.bind (F := fun k => valsK T x k) Par.vals hG
theorem Par.partsB {β : Type} {x : List (Nat × Nat × X)} {G : List (Nat × Nat × Value) → (β → Bool) → Bool} (hG : ∀ v, Par (G v)) : Par (fun k => partsK T x (fun v => G v k)) := Par.bind (F := fun k => partsK T x k) Par.parts hG
theorem Par.valOB {β : Type} {x : Option X} {G : Option Value → (β → Bool) → Bool} (hG : ∀ v, Par (G v)) : Par (fun k => valOK T x (fun v => G v k)) := Par.bind (F := fun k => valOK T x k) Par.valO hG
theorem Par.vK {F : (Value → Bool) → Bool} (hF : Par F) : Par (fun (k : Value × St → Bool) => F (vK s (fun v s => k (v, s)))) := Par.map hF (fun v => (v, s))
theorem Par.optV {x : Option Value} : Par (fun k => optK x (fun v => forceV v k)) := by
  have : (fun k => optK x (fun v => forceV v k)) = (fun k => optK x k) := by
    funext k
    simp only [forceV_eq]
  rw [this]
  exact Par.opt x
theorem Par.oK {x : Option Value} : Par (fun (k : Value × St → Bool) => oK s (fun v s => k (v, s)) x) := by
  have : (fun (k : Value × St → Bool) => Ev.oK s (fun v s => k (v, s)) x) = (fun k => optK x (fun v => k (v, s))) := by
    funext k
    unfold Ev.oK
    simp only [forceV_eq]
  rw [this]
  exact Par.map (Par.opt x) _

/-- An operation that hands on a value and writes nothing. -/
def still : COp → Bool
  | .mov _ | .pick .. | .ld .. | .nilc _ | .bin .. | .un .. | .conv .. | .mini .. | .tas .. | .bi .. | .ixs .. | .fn .. | .slc .. | .slcn .. | .fa .. | .fld .. | .ia .. | .iaa .. | .ix .. | .ext .. | .len _ | .cap _ => true
  | _ => false
theorem Par.faP {v : Value} {off : Nat} : Par (fun k => faK v off k) := Par.ptr (fun b o => by
  have : (fun k : Value → Bool => forceN (Nat.add o off) (fun o => k (.pointer (some ⟨b, o, none⟩)))) = (fun k => k (.pointer (some ⟨b, Nat.add o off, none⟩))) := by
    funext k
    rw [forceN_eq]
  rw [this]
  exact Par.ret _)
theorem Par.force {n : Nat} {f : Nat → Value} : Par (fun k => forceN n (fun o => k (f o))) := by
  have : (fun k : Value → Bool => forceN n (fun o => k (f o))) = (fun k => k (f n)) := by
    funext k
    rw [forceN_eq]
  rw [this]
  exact Par.ret _
theorem Par.iaP {v i : Value} {size : Nat} : Par (fun k => iaK v i size k) := Par.slice (fun _ _ => Par.no) (fun _ _ _ _ => Par.nat (fun _ => Par.ifB Par.force Par.no))
theorem Par.iaaP {v i : Value} {len size : Nat} : Par (fun k => iaaK v i len size k) := Par.ptr (fun _ _ => Par.nat (fun _ => Par.ifB Par.force Par.no))
theorem Par.take : ∀ {l : List Value} {i n : Nat}, Par (fun k => takeK l i n k)
  | [], _, 0 => Par.ret []
  | [], _, _ + 1 => Par.no
  | _ :: _, 0, 0 => Par.ret []
  | v :: l, 0, n + 1 => Par.map (Par.take (l := l) (i := 0) (n := n)) (fun l => v :: l)
  | _ :: l, i + 1, n => Par.take (l := l) (i := i) (n := n)
theorem Par.partP {l : List Value} {off : Nat} {n : Option Nat} : Par (fun k => partK l off n k) := by
  cases n with
  | none => exact Par.nth
  | some n => exact Par.map Par.take _
theorem Par.ixP {v i : Value} {len size : Nat} {n : Option Nat} : Par (fun k => ixK v i len size n k) := Par.agg (fun _ => Par.nat (fun _ => Par.ifB Par.partP Par.no))
theorem Par.pickP {c a b : Value} : Par (fun k => pickK c a b k) := Par.bool (fun t => by
  cases t with
  | true => exact Par.ret a
  | false => exact Par.ret b)
theorem Par.nilcP {v : Value} : Par (fun k => nilcK v k) := Par.map (Par.opt (evNilc v)) (fun _ => v)

theorem still_par {c : COp} (h : still c = true) : Par (fun (k : Value × St → Bool) => runOpK P T s c (fun v s => k (v, s))) := by
  cases c with
  | mov x => exact Par.valB (fun v => Par.ret (v, s))
  | pick c a b => exact Par.valB fun _ => Par.valB fun _ => Par.valB fun _ => Par.vK Par.pickP
  | ld a n => exact Par.valB fun _ => Par.vK Par.ld
  | nilc x => exact Par.valB fun _ => Par.vK Par.nilcP
  | bin b t d x y => exact Par.valB fun _ => Par.valB fun _ => Par.vK Par.optV
  | un u x => exact Par.valB fun _ => Par.oK
  | conv a b x => exact Par.valB fun _ => Par.oK
  | mini t x => exact Par.valB fun _ => Par.oK
  | tas x a b o => exact Par.valB fun _ => Par.oK
  | bi b ts t l => exact Par.valsB fun _ => Par.oK
  | ixs t x i => exact Par.valB fun _ => Par.valB fun _ => Par.oK
  | fn f p c => exact Par.valsB fun p => Par.valsB fun c => Par.ret (Value.func (.func f) ⟨p⟩ ⟨c⟩, s)
  | slc e size x lo hi mx => exact Par.valB fun _ => Par.valOB fun _ => Par.valOB fun _ => Par.valOB fun _ => Par.vK Par.optV
  | slcn t x lo hi mx => exact Par.valB fun _ => Par.valOB fun _ => Par.valOB fun _ => Par.valOB fun _ => Par.oK
  | fa x off => exact Par.valB fun _ => Par.vK Par.faP
  | fld x off n => exact Par.valB fun _ => Par.vK (Par.agg fun _ => Par.partP)
  | ia x i size => exact Par.valB fun _ => Par.valB fun _ => Par.vK Par.iaP
  | iaa x i len size => exact Par.valB fun _ => Par.valB fun _ => Par.vK Par.iaaP
  | ix x i len size n => exact Par.valB fun _ => Par.valB fun _ => Par.vK Par.ixP
  | ext x i => exact Par.valB fun _ => Par.vK (Par.tuple fun _ => Par.nth)
  | len x => exact Par.valB fun _ => Par.slice (fun n _ => Par.ret (Value.int .i64 (.ofNat n), s)) (fun _ _ n _ => Par.ret (Value.int .i64 (.ofNat n), s))
  | cap x => exact Par.valB fun _ => Par.oK
  | _ => cases h
end
end Go.Proofs.YtcpebhdbpkhhiaaGreat.Ev

/- An operation's value had again, at another time: the reads the other way round. No program here. -/
namespace Go.Proofs.YtcpebhdbpkhhiaaGreat.Ev
open Go Go.RowKit

theorem getK_of {α : Type} {k : α → Bool} {a : α} : ∀ {t : BT α} {n : Nat}, t.get n = some a → k a = true → getK t n k = true
  | .leaf, n, h, _ => by cases h
  | .node b l r, n, h, hk => by
    show Ev.ifB (Nat.beq n 0) (k b) (Ev.ifB (Nat.beq (Nat.mod n 2) 1) (getK l (Nat.div n 2) k) (getK r (Nat.pred (Nat.div n 2)) k)) = true
    simp only [BT.get] at h
    rw [beq0]
    by_cases h0 : n = 0
    · rw [if_pos h0] at h
      cases h
      simpa [ifB, h0] using hk
    · rw [if_neg h0] at h
      have e : Nat.beq (Nat.mod n 2) 1 = decide (n % 2 = 1) := par n
      rw [e]
      by_cases hp : n % 2 = 1
      · rw [if_pos hp] at h
        have := getK_of h hk
        simp only [h0, hp, decide_false, decide_true, Ev.ifB]
        exact this
      · rw [if_neg hp] at h
        have := getK_of (n := n / 2 - 1) h hk
        simp only [h0, hp, decide_false, Ev.ifB]
        exact this
theorem valK_of {T : BT Value} {x : X} {v : Value} {k : Value → Bool} (h : XV T x v) (hk : k v = true) : valK T x k = true := by
  cases x with
  | t i => exact getK_of h hk
  | c u => simp only [XV] at h; subst h; exact hk
theorem valsK_of {T : BT Value} : ∀ {l : List X} {vs : List Value} {k : List Value → Bool}, XVs T l vs → k vs = true → valsK T l k = true
  | [], vs, k, h, hk => by simp only [XVs] at h; subst h; exact hk
  | x :: l, vs, k, h, hk => by
    simp only [XVs] at h
    obtain ⟨v, vs', rfl, h1, h2⟩ := h
    show valK T x (fun v => valsK T l (fun l => k (v :: l))) = true
    exact valK_of h1 (valsK_of h2 hk)
theorem valOK_of {T : BT Value} {x : Option X} {v : Option Value} {k : Option Value → Bool} (h : XO T x v) (hk : k v = true) : valOK T x k = true := by
  cases x with
  | none => simp only [XO] at h; subst h; exact hk
  | some x =>
    simp only [XO] at h
    obtain ⟨u, rfl, h1⟩ := h
    show valK T x (fun v => k (some v)) = true
    exact valK_of h1 hk
end Go.Proofs.YtcpebhdbpkhhiaaGreat.Ev

/- An operation that looks at no memory gives the same value at any time at which its operands are the same. No program here. -/
namespace Go.Proofs.YtcpebhdbpkhhiaaGreat.Ev
open Go Go.RowKit

def looks : COp → Bool
  | .ld .. | .slc .. => true
  | _ => false

section
variable {P : Program} {T T' : BT Value} {s s' : St}
theorem at1 {x : X} {G G' : Value → Bool} (hx : ∀ v, XV T x v → XV T' x v) (h : ∀ v, G v = true → G' v = true) (hk : valK T x G = true) : valK T' x G' = true := by
  obtain ⟨v, hv, hk⟩ := valK_inv hk
  exact valK_of (hx v hv) (h v hk)
theorem XVs.up : ∀ {l : List X} {vs : List Value}, (∀ x ∈ l, ∀ v, XV T x v → XV T' x v) → XVs T l vs → XVs T' l vs
  | [], vs, _, h => by simpa only [XVs] using h
  | x :: l, vs, hx, h => by
    simp only [XVs] at h ⊢
    obtain ⟨v, vs', rfl, h1, h2⟩ := h
    exact ⟨v, vs', rfl, hx x (by simp) v h1, XVs.up (fun y hy => hx y (by simp [hy])) h2⟩
theorem ats {l : List X} {G G' : List Value → Bool} (hx : ∀ x ∈ l, ∀ v, XV T x v → XV T' x v) (h : ∀ v, G v = true → G' v = true) (hk : valsK T l G = true) : valsK T' l G' = true := by
  obtain ⟨v, hv, hk⟩ := valsK_inv hk
  exact valsK_of (XVs.up hx hv) (h v hk)
theorem ato {x : Option X} {G G' : Option Value → Bool} (hx : ∀ y ∈ xsO x, ∀ v, XV T y v → XV T' y v) (h : ∀ v, G v = true → G' v = true) (hk : valOK T x G = true) : valOK T' x G' = true := by
  obtain ⟨v, hv, hk⟩ := valOK_inv hk
  refine valOK_of ?_ (h v hk)
  cases x with
  | none => simpa only [XO] using hv
  | some y =>
    simp only [XO] at hv ⊢
    obtain ⟨u, rfl, h1⟩ := hv
    exact ⟨u, rfl, hx y (by simp [xsO]) u h1⟩

theorem still_at {c : COp} (h : still c = true) (hl : looks c = false) (hT : ∀ x ∈ opXs c, ∀ v, XV T x v → XV T' x v) {k : Value → Bool} (hk : runOpK P T s c (fun v _ => k v) = true) : runOpK P T' s' c (fun v _ => k v) = true := by
  cases c with
  | mov x => exact at1 (hT x (by simp [opXs])) (fun _ h => h) hk
  | pick c a b => exact at1 (hT c (by simp [opXs])) (fun _ => at1 (hT a (by simp [opXs])) (fun _ => at1 (hT b (by simp [opXs])) (fun _ h => h))) hk
  | nilc x => exact at1 (hT x (by simp [opXs])) (fun _ h => h) hk
  | bin b t d x y => exact at1 (hT x (by simp [opXs])) (fun _ => at1 (hT y (by simp [opXs])) (fun _ h => h)) hk
  | un u x => exact at1 (hT x (by simp [opXs])) (fun _ h => h) hk
  | conv a b x => exact at1 (hT x (by simp [opXs])) (fun _ h => h) hk
  | mini t x => exact at1 (hT x (by simp [opXs])) (fun _ h => h) hk
  | tas x a b o => exact at1 (hT x (by simp [opXs])) (fun _ h => h) hk
  | bi b ts t l => exact ats (fun x hx => hT x (by simpa [opXs] using hx)) (fun _ h => h) hk
  | ixs t x i => exact at1 (hT x (by simp [opXs])) (fun _ => at1 (hT i (by simp [opXs])) (fun _ h => h)) hk
  | fn f p c => exact ats (fun x hx => hT x (by simp only [opXs]; exact List.mem_append_left _ hx)) (fun _ => ats (fun x hx => hT x (by simp only [opXs]; exact List.mem_append_right _ hx)) (fun _ h => h)) hk
  | slcn t x lo hi mx =>
    exact at1 (hT x (by simp [opXs])) (fun _ => ato (fun y hy => hT y (by simp only [opXs, List.mem_cons, List.mem_append]; exact .inr (.inl (.inl hy))))
      (fun _ => ato (fun y hy => hT y (by simp only [opXs, List.mem_cons, List.mem_append]; exact .inr (.inl (.inr hy)))) (fun _ => ato (fun y hy => hT y (by simp only [opXs, List.mem_cons, List.mem_append]; exact .inr (.inr hy))) (fun _ h => h)))) hk
  | fa x off => exact at1 (hT x (by simp [opXs])) (fun _ h => h) hk
  | fld x off n => exact at1 (hT x (by simp [opXs])) (fun _ h => h) hk
  | ia x i size => exact at1 (hT x (by simp [opXs])) (fun _ => at1 (hT i (by simp [opXs])) (fun _ h => h)) hk
  | iaa x i len size => exact at1 (hT x (by simp [opXs])) (fun _ => at1 (hT i (by simp [opXs])) (fun _ h => h)) hk
  | ix x i len size n => exact at1 (hT x (by simp [opXs])) (fun _ => at1 (hT i (by simp [opXs])) (fun _ h => h)) hk
  | ext x i => exact at1 (hT x (by simp [opXs])) (fun _ h => h) hk
  | len x => exact at1 (hT x (by simp [opXs])) (fun _ h => h) hk
  | cap x => exact at1 (hT x (by simp [opXs])) (fun _ h => h) hk
  | ld a n => cases hl
  | slc e size x lo hi mx => cases hl
  | _ => cases h
end
end Go.Proofs.YtcpebhdbpkhhiaaGreat.Ev

/- A value that an operation hands on, and when it would hand it on again. No program here. -/
namespace Go.Proofs.YtcpebhdbpkhhiaaGreat.Ev
open Go Go.RowKit

/-- More objects, the old ones as they were. -/
def St.ext (s s' : St) : Prop := ∀ j o, s.h.get j = some o → s'.h.get j = some o
def Same (T T' : BT Value) (l : List X) : Prop := ∀ x ∈ l, ∀ v, XV T x v → XV T' x v
def Hands (R : St → Prop) (xs : List X) (T : BT Value) (s : St) (G : BT Value → St → (Value → St → Bool) → Bool) : Prop :=
  ∀ k, G T s k = true → ∃ v, k v s = true ∧ ∀ T' s' k', Same T T' xs → R s' → k' v s' = true → G T' s' k' = true

section
variable {R : St → Prop} {xs : List X} {T : BT Value} {s : St}
theorem Hands.ret (v : Value) : Hands R xs T s (fun _ s k => k v s) := fun k h => ⟨v, h, fun _ _ _ _ _ h => h⟩
theorem Hands.no : Hands R xs T s (fun _ _ _ => false) := fun k h => by cases h
theorem Hands.par {F : (Value → Bool) → Bool} (hF : Par F) : Hands R xs T s (fun _ s k => F (fun v => k v s)) := fun k h => by
  obtain ⟨v, h1, h2⟩ := hF _ h
  exact ⟨v, h1, fun T' s' k' _ _ hk => h2 (fun v => k' v s') hk⟩
theorem Hands.val {x : X} {G : Value → BT Value → St → (Value → St → Bool) → Bool} (hx : x ∈ xs) (h : ∀ v, Hands R xs T s (G v)) : Hands R xs T s (fun T s k => valK T x (fun v => G v T s k)) := fun k hk => by
  obtain ⟨v, hv, hk⟩ := valK_inv hk
  obtain ⟨u, h1, h2⟩ := h v k hk
  exact ⟨u, h1, fun T' s' k' hT hR hk' => valK_of (hT x hx v hv) (h2 T' s' k' hT hR hk')⟩
theorem Hands.vals {l : List X} {G : List Value → BT Value → St → (Value → St → Bool) → Bool} (hx : ∀ x ∈ l, x ∈ xs) (h : ∀ v, Hands R xs T s (G v)) : Hands R xs T s (fun T s k => valsK T l (fun v => G v T s k)) := fun k hk => by
  obtain ⟨v, hv, hk⟩ := valsK_inv hk
  obtain ⟨u, h1, h2⟩ := h v k hk
  exact ⟨u, h1, fun T' s' k' hT hR hk' => valsK_of (XVs.up (fun x hx' => hT x (hx x hx')) hv) (h2 T' s' k' hT hR hk')⟩
theorem Hands.valO {x : Option X} {G : Option Value → BT Value → St → (Value → St → Bool) → Bool} (hx : ∀ y ∈ xsO x, y ∈ xs) (h : ∀ v, Hands R xs T s (G v)) : Hands R xs T s (fun T s k => valOK T x (fun v => G v T s k)) := fun k hk => by
  obtain ⟨v, hv, hk⟩ := valOK_inv hk
  obtain ⟨u, h1, h2⟩ := h v k hk
  refine ⟨u, h1, fun T' s' k' hT hR hk' => valOK_of ?_ (h2 T' s' k' hT hR hk')⟩
  cases x with
  | none => simpa only [XO] using hv
  | some y =>
    simp only [XO] at hv ⊢
    obtain ⟨u, rfl, h1⟩ := hv
    exact ⟨u, rfl, hT y (hx y (by simp [xsO])) u h1⟩
theorem XPs.up {T T' : BT Value} : ∀ {l : List (Nat × Nat × X)} {vs : List (Nat × Nat × Value)}, (∀ p ∈ l, ∀ v, XV T p.2.2 v → XV T' p.2.2 v) → XPs T l vs → XPs T' l vs
  | [], vs, _, h => by simpa only [XPs] using h
  | (o, n, x) :: l, vs, hx, h => by
    simp only [XPs] at h ⊢
    obtain ⟨v, vs', rfl, h1, h2⟩ := h
    exact ⟨v, vs', rfl, hx (o, n, x) (by simp) v h1, XPs.up (fun y hy => hx y (by simp [hy])) h2⟩
theorem partsK_of {T : BT Value} : ∀ {l : List (Nat × Nat × X)} {vs : List (Nat × Nat × Value)} {k : List (Nat × Nat × Value) → Bool}, XPs T l vs → k vs = true → partsK T l k = true
  | [], vs, k, h, hk => by simp only [XPs] at h; subst h; exact hk
  | (o, n, x) :: l, vs, k, h, hk => by
    simp only [XPs] at h
    obtain ⟨v, vs', rfl, h1, h2⟩ := h
    show valK T x (fun v => partsK T l (fun l => k ((o, n, v) :: l))) = true
    exact valK_of h1 (partsK_of h2 hk)
theorem Hands.parts {l : List (Nat × Nat × X)} {G : List (Nat × Nat × Value) → BT Value → St → (Value → St → Bool) → Bool} (hx : ∀ p ∈ l, p.2.2 ∈ xs) (h : ∀ v, Hands R xs T s (G v)) : Hands R xs T s (fun T s k => partsK T l (fun v => G v T s k)) := fun k hk => by
  obtain ⟨v, hv, hk⟩ := partsK_inv hk
  obtain ⟨u, h1, h2⟩ := h v k hk
  exact ⟨u, h1, fun T' s' k' hT hR hk' => partsK_of (XPs.up (fun x hx' => hT _ (hx x hx')) hv) (h2 T' s' k' hT hR hk')⟩
theorem oK_some {v : Value} {k : Value → St → Bool} {s : St} (h : k v s = true) : oK s k (some v) = true := by simpa [oK, optK, vK, forceV_eq] using h
theorem Hands.opt (x : Option Value) : Hands R xs T s (fun _ s k => oK s k x) := fun k h => by
  obtain ⟨v, rfl, hk⟩ := oK_inv h
  exact ⟨v, hk, fun T' s' k' _ _ hk' => oK_some hk'⟩
theorem Hands.slice {v : Value} {Z : Nat → Nat → BT Value → St → (Value → St → Bool) → Bool} {G : Nat → Nat → Nat → Nat → BT Value → St → (Value → St → Bool) → Bool} (hZ : ∀ n c, Hands R xs T s (Z n c)) (hG : ∀ b o n c, Hands R xs T s (G b o n c)) :
    Hands R xs T s (fun T s k => onSlice v (fun n c => Z n c T s k) (fun b o n c => G b o n c T s k)) := by
  cases v with
  | slice a n c => rcases a with _ | ⟨b, o, _ | _⟩ <;> first | exact Hands.no | exact hG b o n c | exact hZ n c
  | _ => exact Hands.no

theorem rowK_of {s : St} {b n e : Nat} {c : BT Value} {op : Bool} {k : Nat → BT Value → Nat → Bool → Bool} (h : s.h.get b = some (.cells n c e op)) (hk : k n c e op = true) : rowK s b k = true := by
  obtain ⟨h', m⟩ := s
  exact getK_of (k := fun o => @CObj.casesOn (fun _ => Bool) o false k (fun _ _ _ _ _ _ _ => false) (fun _ => false) (fun _ => false) (fun _ => false)) h hk
theorem Hands.ld {n : Option Nat} {a : Value} (hR : ∀ s', R s' → s.ext s') : Hands R xs T s (fun _ s k => ldK s n a (fun v => k v s)) := fun k h => by
  obtain ⟨b, off, rfl, h⟩ := onPtr_inv h
  have key : ∀ (s' : St) (k : Value → Bool) (o : CObj), s'.h.get b = some o → @CObj.casesOn (fun _ => Bool) o false (fun _ c _ _ => cutK c off n k) (fun _ _ _ _ _ _ _ => false) (fun _ => false) (fun _ => false) (fun g => romCutK g off n k) = true → ldK s' n (.pointer (some ⟨b, off, none⟩)) k = true := by
    rintro ⟨h', m⟩ k o h1 h2
    exact getK_of (k := fun o => @CObj.casesOn (fun _ => Bool) o false (fun _ c _ _ => cutK c off n k) (fun _ _ _ _ _ _ _ => false) (fun _ => false) (fun _ => false) (fun g => romCutK g off n k)) h1 h2
  rcases seeK_inv h with ⟨N, c, e, op, hg, h⟩ | ⟨g, hg, h⟩
  · obtain ⟨v, h1, h2⟩ := Par.cut _ h
    exact ⟨v, h1, fun T' s' k' _ hs hk => key s' _ _ (hR s' hs b _ hg) (h2 (fun v => k' v s') hk)⟩
  · obtain ⟨v, h1, h2⟩ := Par.romCut _ h
    exact ⟨v, h1, fun T' s' k' _ hs hk => key s' _ _ (hR s' hs b _ hg) (h2 (fun v => k' v s') hk)⟩
theorem rowOf_ext {s s' : St} (h : s.ext s') {b : Nat} {q : Nat × Nat × Bool} (hq : rowOf s b = some q) : rowOf s' b = some q := by
  unfold rowOf at hq ⊢
  split at hq
  · rename_i n c e op hg
    rw [h b _ hg]
    exact hq
  · cases hq
theorem evSlc_ext {s s' : St} (h : s.ext s') {e size : Nat} {x r : Value} {lo hi mx : Option Value} (hr : evSlc (rowOf s) e size x lo hi mx = some r) : evSlc (rowOf s') e size x lo hi mx = some r := by
  by_cases hx : ∃ b off len cap, x = .slice (some ⟨b, off, none⟩) len cap
  · obtain ⟨b, off, len, cap, rfl⟩ := hx
    have e0 : ∀ row, evSlc row e size (.slice (some ⟨b, off, none⟩) len cap) lo hi mx = (match bnd 0 lo, bnd len hi, evMx mx with
      | some l, some h, some m =>
        sel (Nat.ble OPEN cap)
          (match row b with
          | some (k, e', op) => sel (op && Nat.beq e e' && Nat.beq off ((cap - OPEN) * size) && !Nat.beq size 0 && (Nat.beq cap OPEN || !Nat.beq len 0)) (evSlcOpen b size l h k (cap - OPEN) m) none
          | none => none)
          (sel (Nat.ble h cap) (evSlcAt b off len cap size l h m) none)
      | _, _, _ => none) := fun _ => rfl
    rw [e0] at hr ⊢
    split at hr
    · rename_i l hh M b1 b2 b3
      rw [sel_eq] at hr ⊢
      split at hr
      · rename_i hop
        rw [if_pos hop]
        split at hr
        · rename_i k e' op hrow
          rw [rowOf_ext h hrow]
          exact hr
        · cases hr
      · rename_i hop
        rw [if_neg hop]
        exact hr
    · cases hr
  · have e0 : ∀ row row', evSlc row e size x lo hi mx = evSlc row' e size x lo hi mx := by
      intro row row'
      cases x with
      | slice a n c =>
        rcases a with _ | ⟨b, o, _ | sp⟩
        · cases n <;> cases c <;> rfl
        · exact absurd ⟨b, o, n, c, rfl⟩ hx
        · rfl
      | _ => rfl
    rw [e0 (rowOf s') (rowOf s)]
    exact hr
theorem Hands.slc {e size : Nat} {x : Value} {lo hi mx : Option Value} (hR : ∀ s', R s' → s.ext s') : Hands R xs T s (fun _ s k => slcK s e size x lo hi mx (fun v => k v s)) := fun k h => by
  obtain ⟨v, hv, h1⟩ := optK_inv (k := fun v => forceV v (fun v => k v s)) h
  rw [forceV_eq] at h1
  refine ⟨v, h1, fun T' s' k' _ hs hk => ?_⟩
  show optK (evSlc (rowOf s') e size x lo hi mx) (fun v => forceV v (fun v => k' v s')) = true
  rw [evSlc_ext (hR s' hs) hv]
  show forceV v (fun v => k' v s') = true
  rw [forceV_eq]
  exact hk
end

theorem Par.cells {β : Type} {a : Array Value} {G : List Value → (β → Bool) → Bool} (hG : ∀ l, Par (G l)) : Par (fun k => @Array.rec Value (fun _ => Bool) (fun l => G l k) a) := by
  cases a with
  | mk l => exact hG l
theorem Par.fill : ∀ {ps : List (Nat × Nat × Value)} {c : BT Value}, Par (fun k => fillK c ps k)
  | [], c => Par.ret c
  | (o, n, v) :: ps, c => by
    have h0 : (fun k => fillK c ((o, n, v) :: ps) k) = (fun k => @Array.rec Value (fun _ => Bool) (fun l => Ev.ifB (Nat.beq (lenL l) n) (Ev.ifB (allOne l) (putsK c o l (fun c => fillK c ps k)) false) false) v.cells) := rfl
    rw [h0]
    exact Par.cells (fun l => Par.ifB (Par.ifB (Par.bind (F := fun k => putsK c o l k) (G := fun c k => fillK c ps k) Par.puts (fun _ => Par.fill)) Par.no) Par.no)
theorem Par.buildP {z : List Value} {ps : List (Nat × Nat × Value)} : Par (fun k => buildK z ps k) :=
  Par.bind (F := fun k => addsK .leaf 0 z k) (G := fun c k => fillK c ps (fun c => segK c 0 (lenL z) (fun l => k (Value.agg ⟨l⟩)))) Par.adds
    (fun c => Par.bind (F := fun k => fillK c ps k) (G := fun c k => segK c 0 (lenL z) (fun l => k (Value.agg ⟨l⟩))) Par.fill (fun c => Par.map (F := fun k => segK c 0 (lenL z) k) Par.seg (fun l => Value.agg ⟨l⟩)))

/-- What hands on a value and writes nothing. -/
def stillB : COp → Bool
  | .build .. => true
  | c => still c

theorem hands {P : Program} {R : St → Prop} {T : BT Value} {s : St} {c : COp} (h : stillB c = true) (hR : looks c = true → ∀ s', R s' → s.ext s') : Hands R (opXs c) T s (fun T s k => runOpK P T s c k) := by
  cases c with
  | mov x => exact Hands.val (by simp [opXs]) fun v => Hands.ret v
  | pick c a b => exact Hands.val (by simp [opXs]) fun _ => Hands.val (by simp [opXs]) fun _ => Hands.val (by simp [opXs]) fun _ => Hands.par Par.pickP
  | ld a n => exact Hands.val (by simp [opXs]) fun _ => Hands.ld (hR rfl)
  | nilc x => exact Hands.val (by simp [opXs]) fun _ => Hands.par Par.nilcP
  | bin b t d x y => exact Hands.val (by simp [opXs]) fun _ => Hands.val (by simp [opXs]) fun _ => Hands.par Par.optV
  | un u x => exact Hands.val (by simp [opXs]) fun _ => Hands.opt _
  | conv a b x => exact Hands.val (by simp [opXs]) fun _ => Hands.opt _
  | mini t x => exact Hands.val (by simp [opXs]) fun _ => Hands.opt _
  | tas x a b o => exact Hands.val (by simp [opXs]) fun _ => Hands.opt _
  | bi b ts t l => exact Hands.vals (by simp [opXs]) fun _ => Hands.opt _
  | ixs t x i => exact Hands.val (by simp [opXs]) fun _ => Hands.val (by simp [opXs]) fun _ => Hands.opt _
  | fn f p c => exact Hands.vals (fun x hx => by simp only [opXs]; exact List.mem_append_left _ hx) fun p => Hands.vals (fun x hx => by simp only [opXs]; exact List.mem_append_right _ hx) fun c => Hands.ret (Value.func (.func f) ⟨p⟩ ⟨c⟩)
  | slc e size x lo hi mx =>
    exact Hands.val (by simp [opXs]) fun _ => Hands.valO (fun y hy => by simp only [opXs, List.mem_cons, List.mem_append]; exact .inr (.inl (.inl hy))) fun _ => Hands.valO (fun y hy => by simp only [opXs, List.mem_cons, List.mem_append]; exact .inr (.inl (.inr hy))) fun _ =>
      Hands.valO (fun y hy => by simp only [opXs, List.mem_cons, List.mem_append]; exact .inr (.inr hy)) fun _ => Hands.slc (hR rfl)
  | slcn t x lo hi mx =>
    exact Hands.val (by simp [opXs]) fun _ => Hands.valO (fun y hy => by simp only [opXs, List.mem_cons, List.mem_append]; exact .inr (.inl (.inl hy))) fun _ => Hands.valO (fun y hy => by simp only [opXs, List.mem_cons, List.mem_append]; exact .inr (.inl (.inr hy))) fun _ =>
      Hands.valO (fun y hy => by simp only [opXs, List.mem_cons, List.mem_append]; exact .inr (.inr hy)) fun _ => Hands.opt _
  | fa x off => exact Hands.val (by simp [opXs]) fun _ => Hands.par Par.faP
  | fld x off n => exact Hands.val (by simp [opXs]) fun _ => Hands.par (Par.agg fun _ => Par.partP)
  | ia x i size => exact Hands.val (by simp [opXs]) fun _ => Hands.val (by simp [opXs]) fun _ => Hands.par Par.iaP
  | iaa x i len size => exact Hands.val (by simp [opXs]) fun _ => Hands.val (by simp [opXs]) fun _ => Hands.par Par.iaaP
  | ix x i len size n => exact Hands.val (by simp [opXs]) fun _ => Hands.val (by simp [opXs]) fun _ => Hands.par Par.ixP
  | ext x i => exact Hands.val (by simp [opXs]) fun _ => Hands.par (Par.tuple fun _ => Par.nth)
  | len x => exact Hands.val (by simp [opXs]) fun _ => Hands.slice (fun n _ => Hands.ret (Value.int .i64 (.ofNat n))) (fun _ _ n _ => Hands.ret (Value.int .i64 (.ofNat n)))
  | cap x => exact Hands.val (by simp [opXs]) fun _ => Hands.opt _
  | build z ps => exact Hands.parts (fun p hp => by simp only [opXs]; exact List.mem_map_of_mem hp) fun _ => Hands.par Par.buildP
  | _ => cases h

/-- Equal values. -/
theorem kindEq_eq' {a b : IntKind} (h : kindEq a b = true) : a = b := by cases a <;> cases b <;> first | rfl | cases h
theorem intEq_eq' {a b : Int} (h : intEq a b = true) : a = b := by
  cases a <;> cases b <;> simp [intEq] at h <;> simp [h]
mutual
theorem eqV_eq : ∀ (a b : Value), eqV a b = true → a = b
  | .bool a, b, h => by
    cases b with
    | bool b => cases a <;> cases b <;> first | rfl | (simp [eqV] at h)
    | _ => simp [eqV] at h
  | .int k a, b, h => by
    cases b with
    | int k' b =>
      simp only [eqV, Bool.and_eq_true] at h
      rw [kindEq_eq' h.1, intEq_eq' h.2]
    | _ => simp [eqV] at h
  | .float _ _, b, h => by cases b <;> simp [eqV] at h
  | .complex _ _ _, b, h => by cases b <;> simp [eqV] at h
  | .string a, b, h => by
    cases b with
    | string b => simp only [eqV, decide_eq_true_eq] at h; rw [h]
    | _ => simp [eqV] at h
  | .pointer a, b, h => by
    cases b with
    | pointer b =>
      rcases a with _ | ⟨a, o, _ | _⟩ <;> rcases b with _ | ⟨b, o', _ | _⟩ <;> first
        | rfl
        | (simp [eqV] at h; done)
        | (simp only [eqV, Bool.and_eq_true, Nat.beq_eq] at h; simp_all)
    | _ => cases a <;> simp [eqV] at h
  | .slice a l c, b, h => by
    cases b with
    | slice b l' c' =>
      rcases a with _ | ⟨a, o, _ | _⟩ <;> rcases b with _ | ⟨b, o', _ | _⟩ <;> first
        | (simp [eqV] at h; done)
        | (simp only [eqV, Bool.and_eq_true, Nat.beq_eq] at h; simp_all)
    | _ => cases a <;> simp [eqV] at h
  | .map _, b, h => by cases b <;> simp [eqV] at h
  | .chan _, b, h => by cases b <;> simp [eqV] at h
  | .func f p c, b, h => by
    cases b with
    | func f' p' c' =>
      cases f <;> cases f' <;> first
        | (simp [eqV] at h; done)
        | (simp only [eqV, Bool.and_eq_true, Nat.beq_eq] at h
           obtain ⟨⟨h1, h2⟩, h3⟩ := h
           rw [eqA_eq p p' h2, eqA_eq c c' h3]
           simp_all)
    | _ => cases f <;> simp [eqV] at h
  | .nilFunc, b, h => by cases b <;> first | rfl | (simp [eqV] at h)
  | .nilIface, b, h => by cases b <;> first | rfl | (simp [eqV] at h)
  | .iface t v, b, h => by
    cases b with
    | iface t' v' =>
      simp only [eqV, Bool.and_eq_true, Nat.beq_eq] at h
      rw [eqV_eq v v' h.2]
      simp_all
    | _ => simp [eqV] at h
  | .agg a, b, h => by
    cases b with
    | agg b => simp only [eqV] at h; rw [eqA_eq a b h]
    | _ => simp [eqV] at h
  | .tuple a, b, h => by
    cases b with
    | tuple b => simp only [eqV] at h; rw [eqA_eq a b h]
    | _ => simp [eqV] at h
theorem eqA_eq : ∀ (a b : Array Value), eqA a b = true → a = b
  | ⟨a⟩, ⟨b⟩, h => by simp only [eqA] at h; rw [eqL_eq a b h]
theorem eqL_eq : ∀ (a b : List Value), eqL a b = true → a = b
  | [], [], _ => rfl
  | a :: x, b :: y, h => by
    simp only [eqL, Bool.and_eq_true] at h
    rw [eqV_eq a b h.1, eqL_eq x y h.2]
  | [], _ :: _, h => by simp [eqL] at h
  | _ :: _, [], h => by simp [eqL] at h
end
end Go.Proofs.YtcpebhdbpkhhiaaGreat.Ev

/- An object that the evaluator makes ahead: what the world makes later stands for it. No program here. -/
namespace Go.Proofs.YtcpebhdbpkhhiaaGreat.Ev
open Go Go.RowKit

/-- What makes one object. -/
def lateC : COp → Bool
  | .new .. | .box .. | .mks .. | .lit .. => true
  | _ => false
/-- Whenever the world makes the object, with the same operands, it stands for the evaluator's. -/
def LateOk (P : Program) (T : BT Value) (o : Oper) (v : Value) (g : Nat) (ob : CObj) : Prop :=
  ∀ (m : Mp) (w : World) (ρ : Operand → Value), Hρ m T ρ o.op → m g = none → ∃ u o', (execOp ρ o).run P w = .ok (.value u) (w.alloc o') ∧ OR P (m.put g w.heap.size 0) g ob o' ∧ VR (m.put g w.heap.size 0) v u
/-- The evaluator makes one object. -/
def Makes (P : Program) (T : BT Value) (s : St) (o : Oper) (k : Value → St → Bool) : Prop :=
  ∃ v ob h', k v ⟨h', s.n + 1⟩ = true ∧ s.h.get s.n = none ∧ (∀ j, h'.get j = if j = s.n then some ob else s.h.get j) ∧ LateOk P T o v s.n ob

section
variable {P : Program} {s : St} {T : BT Value} {k : Value → St → Bool} {dst : Option Tmp} {ty : TypeId} {pos : String} {af : Array Edge} {gd : Option (Nat × Bool)} {c : COp}

theorem ptr_VR (m : Mp) (g x : Nat) : VR (m.put g x 0) (ptr g) (.pointer (some ⟨x, 0, none⟩)) := by
  simp only [ptr, VR]
  exact ⟨trivial, _, _, Mp.put_same _ _ _ _, rfl⟩
theorem slice_VR (m : Mp) (g x l c : Nat) (h : c < OPEN) : VR (m.put g x 0) (.slice (some ⟨g, 0, none⟩) l c) (.slice (some ⟨x, 0, none⟩) l c) := by
  simp only [VR]
  refine ⟨trivial, ?_⟩
  rw [if_pos h]
  exact ⟨_, _, Mp.put_same _ _ _ _, rfl⟩

theorem late_new {t : TypeId} (hc : compOp P ⟨dst, .alloc t, ty, pos, af, gd⟩ = some c) (hk : runOpK P T s c k = true) : Makes P T s ⟨dst, .alloc t, ty, pos, af, gd⟩ k := by
  simp only [compOp] at hc
  obtain ⟨z, h1, rfl⟩ := Option.map_eq_some_iff.1 hc
  obtain ⟨i, v, hi, hv, rfl, hf, h2⟩ := zeroOf_inv h1
  have hk := nOf_inv (k := fun g => newK s (.cells v.cells.size (.ofList v.cells.toList) t false) (k (ptr g))) hk
  obtain ⟨h', hk, hn, hg⟩ := newK_inv hk
  refine ⟨_, _, h', hk, hn, hg, fun m w ρ _ hm => ⟨.pointer (some ⟨w.heap.size, 0, none⟩), .cells v.cells t (0, 0), ?_, ?_, ptr_VR m _ _⟩⟩
  · simp [execOp, Instr.alloc, run_zero hi hv, newVar, newRow]
  · have := row_new (P := P) (m := m.put s.n w.heap.size 0) (i := s.n) (N := v.cells.size) (e := t) (fun j u h => ofList_get h) (LR.flat v.cells.toList hf) h2 (by simp)
    simpa using this

theorem late_box {t : TypeId} {x : Operand} (hc : compOp P ⟨dst, .box t x, ty, pos, af, gd⟩ = some c) (hk : runOpK P T s c k = true) : Makes P T s ⟨dst, .box t x, ty, pos, af, gd⟩ k := by
  simp only [compOp] at hc
  obtain ⟨X, h1, rfl⟩ := Option.map_eq_some_iff.1 hc
  obtain ⟨v, hv, hk1⟩ := valK_inv (k := fun v => boxK s t v k) hk
  have hk := nOf_inv (k := fun g => forceV v (fun v => @Array.rec Value (fun _ => Bool) (fun l => ifB (allOne l) (forceN (lenL l) (fun m => addsK .leaf 0 l (fun c => newK s (.cells m c t false) (k (ptr g))))) false) v.cells)) hk1
  rw [forceV_eq] at hk
  obtain ⟨l, hl⟩ : ∃ l, v.cells = ⟨l⟩ := ⟨v.cells.toList, rfl⟩
  rw [hl] at hk
  have hk0 : ifB (allOne l) (forceN (lenL l) (fun m => addsK .leaf 0 l (fun c => newK s (.cells m c t false) (k (ptr s.n))))) false = true := hk
  obtain ⟨hall, hk'⟩ := ifB_true hk0
  rw [forceN_eq] at hk'
  obtain ⟨c, hk', hcg⟩ := addsLeaf hk'
  obtain ⟨h', hk2, hn, hg⟩ := newK_inv hk'
  refine ⟨_, _, h', hk2, hn, hg, fun m w ρ hρ hm => ?_⟩
  have hvr : VR m v (ρ x) := hρ x (by simp [Op.operands]) X v h1 hv
  have hcells := hvr.cells
  rw [hl] at hcells
  refine ⟨.pointer (some ⟨w.heap.size, 0, none⟩), .cells (ρ x).cells t (0, 0), ?_, ?_, ptr_VR m _ _⟩
  · simp [execOp, Instr.box, newVar, newRow]
  · have := row_new (P := P) (m := m.put s.n w.heap.size 0) (i := s.n) (N := lenL l) (e := t) (c := c) (l := l) hcg (LR.mono (Mp.put_le hm) _ hcells) (allOne_eq l hall) (lenL_eq l)
    simpa using this

theorem late_mks {t : TypeId} {x y : Operand} (hc : compOp P ⟨dst, .makeSlice t x y, ty, pos, af, gd⟩ = some c) (hk : runOpK P T s c k = true) : Makes P T s ⟨dst, .makeSlice t x y, ty, pos, af, gd⟩ k := by
  simp only [compOp] at hc
  split at hc
  · rename_i e X Y ht h2 h3
    split at hc
    · rename_i i z hi hz
      obtain ⟨h6, hc⟩ := sel_inv hc
      cases hc
      have hs : z.size = i.size := by simpa using h6
      obtain ⟨vx, hx, hk1⟩ := valK_inv (k := fun l => valK T Y (fun c => mksK s e i.size i.bytes z.toList l c k)) hk
      obtain ⟨vy, hy, hk⟩ := valK_inv hk1
      obtain ⟨i', v, hi2, hv, hvz, hf, h1⟩ := zeroOf_inv hz
      rw [hi] at hi2; cases hi2
      unfold mksK at hk
      obtain ⟨ka, na, rfl, hk⟩ := onInt0 hk
      obtain ⟨kb, nb, rfl, hk1⟩ := onInt0 hk
      clear hk
      obtain ⟨h2', hk2⟩ := ifB_true hk1
      clear hk1
      obtain ⟨h3', hk3⟩ := ifB_true hk2
      clear hk2
      have := kindEq_eq h2'; subst this
      have := kindEq_eq h3'; subst this
      obtain ⟨_, l, hl, hk4⟩ := onNat_inv hk3
      clear hk3
      cases hl
      obtain ⟨_, c, hc, hk5⟩ := onNat_inv hk4
      clear hk4
      cases hc
      obtain ⟨h4, hk6⟩ := ifB_true hk5
      clear hk5
      obtain ⟨h5, hk7⟩ := ifB_true hk6
      clear hk6
      obtain ⟨h6, hk8⟩ := ifB_true hk7
      clear hk7
      have h4' : l ≤ c := by simpa using h4
      have h5' : c ≤ 1048576 := by simpa using h5
      have h6' : i.bytes * c ≤ 1073741824 := by simpa using h6
      obtain ⟨tr, hk9, htr⟩ := addsLeaf hk8
      have hk10 := nOf_inv hk9
      rw [forceN_eq] at hk10
      obtain ⟨h', hk11, hn, hg⟩ := newK_inv hk10
      refine ⟨_, _, h', hk11, hn, hg, fun m w ρ hρ hm => ?_⟩
      have ea := (hρ x (by simp [Op.operands]) X _ h2 hx).int_inv
      have eb := (hρ y (by simp [Op.operands]) Y _ h3 hy).int_inv
      refine ⟨.slice (some ⟨w.heap.size, 0, none⟩) l c, .cells ⟨repeatN z.toList c⟩ e (0, 0), ?_, ?_, slice_VR m _ _ _ _ (by unfold OPEN; omega)⟩
      · have w1 : IntKind.i64.wrap (Int.ofNat l) = l := by rw [← wrapq_eq]; simp only [wrapq]; have : fits (Int.ofNat l) = true := by simp only [fits, Nat.blt_eq]; omega
                                                           rw [this]; rfl
        have w2 : IntKind.i64.wrap (Int.ofNat c) = c := by rw [← wrapq_eq]; simp only [wrapq]; have : fits (Int.ofNat c) = true := by simp only [fits, Nat.blt_eq]; omega
                                                           rw [this]; rfl
        have hcell : (Array.range (c * i.size)).map (fun j => (if c * i.size = 0 then #[] else z)[j % (if c * i.size = 0 then #[] else z).size]!) = ⟨repeatN z.toList c⟩ := by
          by_cases h0 : c * i.size = 0
          · rw [h0]
            apply Array.ext'
            have : (repeatN z.toList c).length = 0 := by rw [repeatN_length]; show c * z.size = 0; rw [hs]; exact h0
            have e0 := List.eq_nil_of_length_eq_zero this
            simp only [e0, Array.toList_map, Array.toList_range, List.range_zero, List.map_nil]
          · rw [if_neg h0, ← hs]; exact zeros_eq z c
        have hb1 : ¬ (i.bytes : Int) * (c : Int) > 2 ^ 48 := by
          rw [← Int.natCast_mul]
          omega
        have hc0 : ¬ ((c : Int) < 0) := by omega
        have hl0 : ¬ ((l : Int) < 0) := by omega
        have hlc : ¬ ((l : Int) > (c : Int)) := by omega
        have he : execOp ρ ⟨dst, .makeSlice t x y, ty, pos, af, gd⟩ = (do pure (Next.value (← Instr.makeSlice t (ρ x) (ρ y)))) := rfl
        rw [he, ea, eb]
        have key : (Instr.makeSlice t (.int .i64 (Int.ofNat l)) (.int .i64 (Int.ofNat c))).run P w = .ok (.slice (some ⟨w.heap.size, 0, none⟩) l c) (w.alloc (.cells ⟨repeatN z.toList c⟩ e (0, 0))) := by
          unfold Instr.makeSlice
          simp only [Sem.run_bind, run_und ht, Result.andThen_ok, asInt, asIntOf, Sem.run_pure, run_typeInfo hi, w1, w2]
          rw [if_neg (by simp only [hc0, hl0, hlc, hb1, decide_false, Bool.or_self, Bool.false_eq_true, not_false_eq_true])]
          simp only [Sem.run_bind, run_askRoom, run_sizeOf hi, Result.andThen_ok, Int.toNat_natCast, Sem.run_ite]
          by_cases h0 : c * i.size = 0
          · rw [if_pos h0]
            rw [if_pos h0] at hcell
            simp only [Sem.run_bind, Sem.run_pure, Result.andThen_ok, newRow, run_newObj]
            rw [hcell]; rfl
          · rw [if_neg h0]
            rw [if_neg h0] at hcell
            simp only [Sem.run_bind, Sem.run_pure, Result.andThen_ok, newRow, run_newObj, run_zero hi hv, hvz]
            rw [hcell]; rfl
        rw [Sem.run_bind, key]
        rfl
      · exact row_new htr (LR.flat _ (repeatN_flat hf c)) (repeatN_one h1 c) (by rw [repeatN_length]; show c * i.size = c * z.size; rw [hs])
    · cases hc
  · cases hc

open Classical in
theorem late_lit {t : TypeId} {len : Nat} {qs : Array (Nat × Operand)} (hc : compOp P ⟨dst, .buildSlice t len qs, ty, pos, af, gd⟩ = some c) (hk : runOpK P T s c k = true) : Makes P T s ⟨dst, .buildSlice t len qs, ty, pos, af, gd⟩ k := by
  simp only [compOp] at hc
  split at hc
  · rename_i e ht
    split at hc
    · rename_i i z hi hz
      split at hc
      · rename_i xs h4
        obtain ⟨h5, hc⟩ := sel_inv hc
        cases hc
        simp only [Bool.and_eq_true, Nat.ble_eq] at h5
        obtain ⟨⟨⟨h5, h6⟩, h16⟩, hlen⟩ := h5
        have hzs : z.size = i.size := by simpa using h6
        obtain ⟨ps, hv, hk1⟩ := partsK_inv (k := fun ps => litK s e len (len * i.size) (repeatN z.toList len) ps k) hk
        obtain ⟨i', zv, hi2, hzv, hvz, hf, hone⟩ := zeroOf_inv hz
        rw [hi] at hi2; cases hi2
        unfold litK at hk1
        have hrl : (repeatN z.toList len).length = len * i.size := by rw [repeatN_length]; show len * z.size = _; rw [hzs]
        obtain ⟨c, hk2, hc⟩ := addsLeaf hk1
        obtain ⟨c', hk3, hpar⟩ := Par.fill _ hk2
        have hk4 := nOf_inv (k := fun g => newK s (.cells (len * i.size) c' e false) (k (.slice (some ⟨g, 0, none⟩) len len))) hk3
        obtain ⟨h', hk5, hn, hg⟩ := newK_inv hk4
        refine ⟨_, _, h', hk5, hn, hg, fun m w ρ hρ hm => ?_⟩
        have hp := parts_ok (m := m) (ρ := ρ) h4 hv hρ
        have hff : ∀ v ∈ repeatN z.toList len, flat v = true := by
          have : ∀ (l : List Value), flatL l = true → ∀ v ∈ l, flat v = true := by
            intro l
            induction l with
            | nil => intro _ v hv; cases hv
            | cons a l ih =>
              intro h v hv
              simp only [flatL, Bool.and_eq_true] at h
              rcases List.mem_cons.1 hv with rfl | hv
              · exact h.1
              · exact ih h.2 v hv
          exact this _ (repeatN_flat hf len)
        obtain ⟨c2, cs', hc2, hfill, hsz, hc'⟩ := fill_ok (m := m) (cs := ⟨repeatN z.toList len⟩) (N := len * i.size) (k := fun x => decide (x = c')) hp (inN_of h5 hv) hrl (fun j v hj => by
          have h1 := hc j v hj
          exact ⟨repeatN_one hone len v (List.mem_of_getElem? h1), v, by simpa using h1, VR.flat v (hff v (List.mem_of_getElem? h1))⟩) (hpar _ (by simp))
        have : c2 = c' := by simpa using hc2
        subst this
        refine ⟨.slice (some ⟨w.heap.size, 0, none⟩) len len, .cells cs' e (0, 0), ?_, ?_, slice_VR m _ _ _ _ (by unfold OPEN; omega)⟩
        · have hcell : ∀ Z : Array Value, (Z = if len * i.size = 0 then #[] else z) → (Array.range (len * i.size)).map (fun j => Z[j % Z.size]!) = ⟨repeatN z.toList len⟩ := by
            rintro Z rfl
            by_cases h0 : len * i.size = 0
            · rw [h0]
              apply Array.ext'
              have e0 := List.eq_nil_of_length_eq_zero (hrl.trans h0)
              simp only [e0, Array.toList_map, Array.toList_range, List.range_zero, List.map_nil]
            · rw [if_neg h0, ← hzs]; exact zeros_eq z len
          have hbig : ¬ len * i.size > 2 ^ 24 := by omega
          have he : execOp ρ ⟨dst, .buildSlice t len qs, ty, pos, af, gd⟩ = (do pure (Next.value (← Instr.buildSlice t len ⟨qs.toList.map fun (p : Nat × Operand) => (p.1, ρ p.2)⟩))) := by
            rw [← map_parts]
            rfl
          have key : (Instr.buildSlice t len ⟨qs.toList.map fun (p : Nat × Operand) => (p.1, ρ p.2)⟩).run P w = .ok (.slice (some ⟨w.heap.size, 0, none⟩) len len) (w.alloc (.cells cs' e (0, 0))) := by
            unfold Instr.buildSlice
            simp only [Sem.run_bind, run_und ht, Result.andThen_ok, run_sizeOf hi, if_neg hbig, Sem.run_pure, Sem.run_ite]
            by_cases h0 : len * i.size = 0
            · have hc0 := hcell #[] (by rw [if_pos h0])
              simp only [if_pos h0, Sem.run_bind, Sem.run_pure, Result.andThen_ok]
              rw [hc0, hfill]
              simp [newRow]
            · have hc0 := hcell z (by rw [if_neg h0])
              simp only [if_neg h0, Sem.run_bind, Sem.run_pure, Result.andThen_ok, run_zero hi hzv, hvz]
              rw [hc0, hfill]
              simp [newRow]
          rw [he, Sem.run_bind, key]
          rfl
        · refine ⟨cs', rfl, by rw [hsz]; exact Nat.le_refl _, fun j v hj => ?_, by simp, fun j v hj => ?_⟩
          · obtain ⟨_, v', h1, h2⟩ := hc' j v hj
            exact ⟨v', h1, h2.mono (Mp.put_le hm)⟩
          · obtain ⟨h0, v', h1, h2⟩ := hc' j v hj
            exact ⟨h0, by rw [← hsz]; exact (Array.getElem?_eq_some_iff.1 h1).1⟩
      · cases hc
    · cases hc
  · cases hc

/-- Calm operations: what is handed on, what is made; what looks. -/
theorem comp_kind {op : Op} (hc : compOp P ⟨dst, op, ty, pos, af, gd⟩ = some c) : (calm op = true → stillB c = true ∨ lateC c = true) ∧ (looks c = true → isLook op = true) ∧ (lateC c = true → ∀ {T : BT Value} {s : St} {k : Value → St → Bool}, runOpK P T s c k = true → Makes P T s ⟨dst, op, ty, pos, af, gd⟩ k) := by
  have hm : ∀ {α : Type} {x : Option α} {f : α → COp}, x.map f = some c → ∃ a, c = f a := by
    intro α x f h
    obtain ⟨a, _, e⟩ := Option.map_eq_some_iff.1 h
    exact ⟨a, e.symm⟩
  cases op with
  | alloc t => exact ⟨fun _ => (by obtain ⟨a, rfl⟩ := hm hc; exact .inr rfl), fun h => (by obtain ⟨a, rfl⟩ := hm hc; cases h), fun _ _ _ _ hk => late_new hc hk⟩
  | box t x => exact ⟨fun _ => (by obtain ⟨a, rfl⟩ := hm hc; exact .inr rfl), fun h => (by obtain ⟨a, rfl⟩ := hm hc; cases h), fun _ _ _ _ hk => late_box hc hk⟩
  | makeSlice t x y =>
    refine ⟨fun _ => ?_, fun h => ?_, fun _ _ _ _ hk => late_mks hc hk⟩
    all_goals
      simp only [compOp] at hc
      repeat' split at hc
      all_goals first | (obtain ⟨_, hc⟩ := sel_inv hc; cases hc; first | exact .inr rfl | cases h) | cases hc
  | buildSlice t n x =>
    refine ⟨fun _ => ?_, fun h => ?_, fun _ _ _ _ hk => late_lit hc hk⟩
    all_goals
      simp only [compOp] at hc
      repeat' split at hc
      all_goals first | (obtain ⟨_, hc⟩ := sel_inv hc; cases hc; first | exact .inr rfl | cases h) | cases hc
  | call cl =>
    obtain ⟨ce, args, ts⟩ := cl
    cases ce with
    | value f =>
      simp only [compOp] at hc
      split at hc
      · cases hc; exact ⟨fun h => (by cases h), fun h => (by cases h), fun h => (by cases h)⟩
      · cases hc
    | invoke => cases hc
    | builtin b =>
      simp only [compOp] at hc
      repeat' split at hc
      all_goals first
        | (cases hc; done)
        | (cases hc; exact ⟨fun h => (by cases h), fun h => (by cases h), fun h => (by cases h)⟩)
        | (obtain ⟨a, rfl⟩ := hm hc; exact ⟨fun h => (by first | exact .inl rfl | cases h), fun h => (by cases h), fun h => (by cases h)⟩)
        | (obtain ⟨_, hc⟩ := sel_inv hc; cases hc; exact ⟨fun h => (by cases h), fun h => (by cases h), fun h => (by cases h)⟩)
        | (obtain ⟨_, hc⟩ := sel_inv hc; cases hc; done)
        | (obtain ⟨_, hc⟩ := sel_inv hc; split at hc <;> first | (cases hc; done) | (cases hc; exact ⟨fun h => (by cases h), fun h => (by cases h), fun h => (by cases h)⟩))
  | makeFunc fn => cases fn with
    | func f =>
      simp only [compOp] at hc
      repeat' split at hc
      all_goals first | (cases hc; done) | (cases hc; exact ⟨fun h => .inl rfl, fun h => (by cases h), fun h => (by cases h)⟩)
    | _ => cases hc
  | makeMap t r => cases r with
    | none => cases hc; exact ⟨fun h => (by cases h), fun h => (by cases h), fun h => (by cases h)⟩
    | some r => cases hc
  | _ =>
    simp only [compOp] at hc
    repeat' split at hc
    all_goals first
      | (cases hc; done)
      | (cases hc; exact ⟨fun h => (by first | exact .inl rfl | cases h), fun h => (by first | rfl | cases h), fun h => (by cases h)⟩)
      | (obtain ⟨a, rfl⟩ := hm hc; exact ⟨fun h => (by first | exact .inl rfl | cases h), fun h => (by first | rfl | cases h), fun h => (by cases h)⟩)
      | (obtain ⟨_, hc⟩ := sel_inv hc; cases hc; exact ⟨fun h => (by first | exact .inl rfl | cases h), fun h => (by first | rfl | cases h), fun h => (by cases h)⟩)
      | (rw [sel_eq] at hc; split at hc <;> first | (cases hc; done) | (cases hc; exact ⟨fun h => (by first | exact .inl rfl | cases h), fun h => (by first | rfl | cases h), fun h => (by cases h)⟩))
end
end Go.Proofs.YtcpebhdbpkhhiaaGreat.Ev
