import Derived.Test.YtjkdkpckjgaplaaGreatZh01
import Derived.Laws.CopyRow
import Derived.Laws.Cells
import Derived.Shelf.Abstract
set_option linter.unusedVariables false
set_option linter.unusedSimpArgs false
namespace Go.Proofs.YtjkdkpckjgaplaaGreat.Ev
open Go Go.RowKit
def fT.code : fT -> Option Code
 | .normal => none
 | .ret => some .ret
 | .exit id => some (.exit id)
 | .goto l => some (.goto l)
def TR (m : Mp) (T : BT Value) (a : Array Value) : Prop := ∀ t v, T.get t = some v -> ∃ v', a[t]? = some v' /\ VR m v v'
def ER (m : Mp) : List (Int × Value) -> List MapEntry -> Prop
 | [], l => l = []
 | e :: es, l => ∃ f t, l = f :: t /\ f.key = .int .i64 e.1 /\ VR m e.2 f.val /\ ER m es t
theorem ER.mono {m m' : Mp} (hm : m.le m') : ∀ {es : List (Int × Value)} {l : List MapEntry}, ER m es l -> ER m' es l
 | [], _, h => h
 | _ :: _, _, h => by
  obtain ⟨f, t, h1, h2, h3, h4⟩ := h;exact ⟨f, t, h1, h2, h3.mono hm, ER.mono hm h4⟩
def OR (P : Program) (m : Mp) (i : Nat) : dK -> Obj -> Prop
 | .dead, _ => True
 | .cells n c e op, o => ∃ cs : Array Value, o = .cells cs e (0, 0) /\ n <= cs.size /\ (∀ j v, c.get j = some v -> ∃ v', cs[j]? = some v' /\ VR m v v') /\
  (op = true -> ∃ x y, m i = some (x, y) /\ y * P.cellsOf e = cs.size) /\ (∀ j v, c.get j = some v -> oneCell v = true /\ j < n)
 | .loop st x T ps a b q, o => ∃ r : Loop, o = .loop r /\ r.state = st /\ r.pending = x.code /\ TR m T r.tmps /\ r.params.toList = ps /\ comp P r.assign = a /\ comp P r.body = b /\
  ∃ z y, m q = some (z, y) /\ r.defers = z
 | .deferred d, o => o = .deferred (if d then some [] else none)
 | .imap es, o => ∃ (a : Array MapEntry) (c : Nat), o = .map a c /\ ER m es a.toList
 | .rom g, o => ∃ (cs : Array Value) (e : Nat) (fr : Nat × Nat), o = .cells cs e fr /\ ∀ j v, g j = some v -> oneCell v = true /\ ∃ v', cs[j]? = some v' /\ VR m v v'
theorem TR.mono {m m' : Mp} (hm : m.le m') {T : BT Value} {a : Array Value} (h : TR m T a) : TR m' T a := fun t v ht => by
 obtain ⟨v', h1, h2⟩ := h t v ht;exact ⟨v', h1, h2.mono hm⟩
theorem OR.mono {P : Program} {m m' : Mp} (hm : m.le m') {i : Nat} {o : dK} {o' : Obj} (h : OR P m i o o') : OR P m' i o o' := by
 cases o with
 | dead => trivial
 | cells n c e op =>
  obtain ⟨cs, h1, h2, h3, h4, h7⟩ := h;refine ⟨cs, h1, h2, fun j v hj => ?_, fun ho => ?_, h7⟩
  ·obtain ⟨v', h5, h6⟩ := h3 j v hj; exact ⟨v', h5, h6.mono hm⟩
  ·obtain ⟨x, y, h5, h6⟩ := h4 ho; exact ⟨x, y, hm _ _ h5, h6⟩
 | loop st x T ps a b q =>
  obtain ⟨r, h1, h2, h3, h4, h5, h6, h7, z, y, h8, h9⟩ := h;exact ⟨r, h1, h2, h3, h4.mono hm, h5, h6, h7, z, y, hm _ _ h8, h9⟩
 | deferred d => exact h
 | imap es =>
  obtain ⟨a, c, h1, h2⟩ := h;exact ⟨a, c, h1, h2.mono hm⟩
 | rom g =>
  obtain ⟨cs, e, fr, h1, h2⟩ := h;refine ⟨cs, e, fr, h1, fun j v hj => ?_⟩;obtain ⟨h3, v', h4, h5⟩ := h2 j v hj;exact ⟨h3, v', h4, h5.mono hm⟩
abbrev Kp := Nat -> Option dK
structure cN (P : Program) (K : Kp) (B : Nat) (m : Mp) (s : St) (w : World) : Prop where
 low : ∀ i x y, m i = some (x, y) -> (B <= x ∨ ∃ g, s.h.get i = some (.rom g)) /\ x < w.heap.size
 old : ∀ i p, m i = some p -> i < s.n
 obj : ∀ i x y o, m i = some (x, y) -> s.h.get i = some o -> ∃ o', w.heap[x]? = some o' /\ OR P m i o o'
 inj : ∀ i j x y y', m i = some (x, y) -> m j = some (x, y') -> i ≠ j -> B <= x -> s.h.get i = some .dead ∨ s.h.get j = some .dead
 base : B <= w.heap.size
 kept : ∀ i o, K i = some o -> m i = none /\ s.h.get i = some o /\ i < s.n
theorem oW {B : Nat} {w w' : World} (ho : w'.os = w.os) (ht : w'.tape = w.tape) (hp : w'.output = w.output) (hs : w.heap.size <= w'.heap.size) (hb : ∀ k, k < B -> w'.heap[k]? = w.heap[k]?) : Below B w w' := ⟨ho, ht, hp, hs, hb⟩
def Mp.put (m : Mp) (i x y : Nat) : Mp := fun j => if j = i then some (x, y) else m j
theorem Mp.put_le {m : Mp} {i x y : Nat} (h : m i = none) : m.le (m.put i x y) := by
 intro j p hj;unfold Mp.put;rw [if_neg]
 ·exact hj
 ·rintro rfl; rw [h] at hj; cases hj
@[simp] theorem Mp.put_same (m : Mp) (i x y : Nat) : m.put i x y i = some (x, y) := by simp [Mp.put]
theorem Mp.put_ne {m : Mp} {i x y j : Nat} (h : j ≠ i) : m.put i x y j = m j := by simp [Mp.put, h]
theorem cN.own {P : Program} {K : Kp} {B : Nat} {m : Mp} {s : St} {w : World} (E : cN P K B m s w) {b x y : Nat} {c : dK} (hm : m b = some (x, y)) (hc : s.h.get b = some c) (hn : ∀ g, c ≠ .rom g) : B <= x := by
 rcases (E.low b x y hm).1 with h | ⟨g, h⟩
 ·exact h
 ·rw [hc] at h; cases h; exact absurd rfl (hn g)
theorem cN.none {P : Program} {K : Kp} {B : Nat} {m : Mp} {s : St} {w : World} (E : cN P K B m s w) : m s.n = none := by
 cases h : m s.n with
 | none => rfl
 | some p => exact absurd (E.old _ _ h) oM
theorem cN.new {P : Program} {K : Kp} {B : Nat} {m : Mp} {s : St} {w : World} (E : cN P K B m s w) {h' : BT dK} {o : dK} {o' : Obj} (y : Nat) (hg : ∀ j, h'.get j = if j = s.n then some o else s.h.get j)
 (hr : OR P (m.put s.n w.heap.size y) s.n o o') : cN P K B (m.put s.n w.heap.size y) ⟨h', s.n + 1⟩ (w.alloc o') := by
 have hn := E.none;refine ⟨fun i x z hi => ?_, fun i p hi => ?_, fun i x z c hi hc => ?_, fun i j x z z' hi hj hij hBx => ?_, by have := E.base; simp; omega, fun i o2 hi => ?_⟩
 ·by_cases he : i = s.n
  ·subst he; simp at hi; have := E.base; exact ⟨.inl oM, by simp; omega⟩
  ·rw [Mp.put_ne he] at hi
   obtain ⟨h1, h2⟩ := E.low i x z hi;refine ⟨h1.imp id (fun ⟨g, h⟩ => ⟨g, ?_⟩), by simp; omega⟩;show h'.get i = _;rw [hg, if_neg he]; exact h
 ·by_cases he : i = s.n
  ·subst he; exact Nat.lt_succ_self _
  ·rw [Mp.put_ne he] at hi; exact Nat.lt_succ_of_lt (E.old i p hi)
 ·have hc' : h'.get i = some c := hc
  rw [hg] at hc';by_cases he : i = s.n
  ·subst he
   rw [if_pos rfl] at hc';simp only [Mp.put_same, Option.some.injEq, Prod.mk.injEq] at hi;cases hc';refine ⟨o', ?_, hr⟩;rw [<- hi.1];show (w.heap.push o')[w.heap.size]? = some o';simp
  ·rw [if_neg he] at hc'
   rw [Mp.put_ne he] at hi;obtain ⟨o2, h1, h2⟩ := E.obj i x z c hi hc';refine ⟨o2, ?_, h2.mono (Mp.put_le hn)⟩;have := (E.low i x z hi).2;show (w.heap.push o')[x]? = some o2;rw [Array.getElem?_push_lt this];rw [Array.getElem?_eq_getElem this] at h1;exact h1
 ·show h'.get i = some .dead ∨ h'.get j = some .dead
  rw [hg, hg];by_cases hi' : i = s.n
  ·subst hi'
   rw [Mp.put_ne (Ne.symm hij)] at hj;simp only [Mp.put_same, Option.some.injEq, Prod.mk.injEq] at hi;have := (E.low j x z' hj).2;omega
  ·by_cases hj' : j = s.n
   ·subst hj'
    rw [Mp.put_ne hij] at hi;simp only [Mp.put_same, Option.some.injEq, Prod.mk.injEq] at hj;have := (E.low i x z hi).2;omega
   ·rw [if_neg hi', if_neg hj']
    rw [Mp.put_ne hi'] at hi;rw [Mp.put_ne hj'] at hj;exact E.inj i j x z z' hi hj hij hBx
 ·obtain ⟨h1, h2, h3⟩ := E.kept i o2 hi
  have he : i ≠ s.n := oM
  exact ⟨by rw [Mp.put_ne he]; exact h1, by show h'.get i = _; rw [hg, if_neg he]; exact h2, Nat.lt_succ_of_lt h3⟩
theorem uL {B : Nat} {w : World} (hB : B <= w.heap.size) (o : Obj) : Below B w (w.alloc o) := (Below.refl B w).alloc hB o
theorem cN.put {P : Program} {K : Kp} {B : Nat} {m : Mp} {s : St} {w w' : World} (E : cN P K B m s w) {h' : BT dK} {b x y : Nat} {o c : dK} {o' : Obj} (hb : m b = some (x, y)) (hc : s.h.get b = some c) (hd : c ≠ .dead /\ ∀ g, c ≠ .rom g)
 (hg : ∀ j, h'.get j = if j = b then some o else s.h.get j) (hs : w'.heap.size = w.heap.size) (hx : w'.heap[x]? = some o') (hw : ∀ k, k ≠ x -> w'.heap[k]? = w.heap[k]?) (hr : OR P m b o o') : cN P K B m ⟨h', s.n⟩ w' := by
 have hBb := E.own hb hc hd.2;refine ⟨fun i z u hi => ⟨?_, by rw [hs]; exact (E.low i z u hi).2⟩, E.old, fun i z u d hi hd' => ?_, fun i j z u u' hi hj hij hBx => ?_, by rw [hs]; exact E.base, fun i o2 hi => ?_⟩
 ·by_cases he : i = b
  ·subst he; rw [hb] at hi; cases hi; exact .inl hBb
  ·refine (E.low i z u hi).1.imp id (fun ⟨g, h⟩ => ⟨g, ?_⟩)
   show h'.get i = _;rw [hg, if_neg he]; exact h
 ·have hd2 : h'.get i = some d := hd'
  rw [hg] at hd2;by_cases he : i = b
  ·subst he
   rw [if_pos rfl] at hd2;cases hd2;rw [hb] at hi;cases hi;exact ⟨o', hx, hr⟩
  ·rw [if_neg he] at hd2
   obtain ⟨o2, h1, h2⟩ := E.obj i z u d hi hd2;by_cases hz : z = x
   ·subst hz
    rcases E.inj i b z u y hi hb he hBb with h3 | h3
    ·rw [hd2] at h3; cases h3; exact ⟨o', hx, trivial⟩
    ·rw [hc] at h3; cases h3; exact absurd rfl hd.1
   ·exact ⟨o2, by rw [hw z hz]; exact h1, h2⟩
 ·show h'.get i = some .dead ∨ h'.get j = some .dead
  have := E.inj i j z u u' hi hj hij hBx;rw [hg, hg];by_cases hi' : i = b
  ·subst hi'
   rw [hb] at hi; cases hi;rcases this with h3 | h3
   ·rw [hc] at h3; cases h3; exact absurd rfl hd.1
   ·right; rw [if_neg (Ne.symm hij)]; exact h3
  ·by_cases hj' : j = b
   ·subst hj'
    rcases this with h3 | h3
    ·left; rw [if_neg hij]; exact h3
    ·rw [hc] at h3; cases h3; exact absurd rfl hd.1
   ·rw [if_neg hi', if_neg hj']; exact this
 ·obtain ⟨h1, h2, h3⟩ := E.kept i o2 hi
  have he : i ≠ b := by rintro rfl; rw [hb] at h1; cases h1
  exact ⟨h1, by show h'.get i = _; rw [hg, if_neg he]; exact h2, h3⟩
end Go.Proofs.YtjkdkpckjgaplaaGreat.Ev
namespace Go.Proofs.YtjkdkpckjgaplaaGreat.Ev
open Go Go.RowKit
def nv : Next -> Value
 | .value v => v
 | _ => undef
def Qh : Next -> Prop
 | .value _ | .skip => True
 | _ => False
def I9 (P : Program) (K : Kp) (B : Nat) (m : Mp) (w : World) (r : Result Next) (v : Value) (s' : St) : Prop :=
 ∃ m' w' n, r = .ok n w' /\ Qh n /\ m.le m' /\ cN P K B m' s' w' /\ Below B w w' /\ VR m' v (nv n)
theorem I9.pure {P : Program} {K : Kp} {B : Nat} {m : Mp} {s : St} {w : World} (E : cN P K B m s w) {v u : Value} (h : VR m v u) {r : Result Next} (hr : r = .ok (.value u) w) : I9 P K B m w r v s :=
 ⟨m, w, .value u, hr, trivial, Mp.le_refl m, E, Below.refl _ _, h⟩
theorem pS {w : World} {x : Nat} {cs : Array Value} {e : Nat} {fr : Nat × Nat} (h : w.heap[x]? = some (.cells cs e fr)) (j : Nat) : w.cell? ⟨x, j, none⟩ = cs[j]? := by simp [World.cell?, h]
theorem bE {P : Program} {t : TypeId} {i : TypeInfo} (h : P.info? t = some i) (w : World) : (sizeOf t).run P w = .ok i.size w := by simp [sizeOf, typeInfo, h]
theorem eC {P : Program} {t : TypeId} {i : TypeInfo} (h : P.info? t = some i) (w : World) : (typeInfo t).run P w = .ok i w := by simp [typeInfo, h]
theorem Y5 {P : Program} {t : TypeId} {d : TypeDesc} (h : P.underlying t = some d) (w : World) : (underlying t).run P w = .ok d w := by simp [underlying, h]
theorem wP {P : Program} {t : TypeId} (h : aggOf P t = some none) (w : World) : (isAgg t).run P w = .ok false w := by
 unfold aggOf at h;cases hu : P.underlying t with
 | none => simp [hu] at h
 | some d =>
  cases hi : P.info? t with
  | none => cases d <;> simp [hu, hi] at h
  | some i => cases d <;> simp [hu, hi] at h <;> simp [isAgg, underlying, hu]
theorem qQ {P : Program} {t : TypeId} {k : Nat} (h : aggOf P t = some (some k)) (w : World) : (isAgg t).run P w = .ok true w /\ (sizeOf t).run P w = .ok k w := by
 unfold aggOf at h;cases hu : P.underlying t with
 | none => simp [hu] at h
 | some d =>
  cases hi : P.info? t with
  | none => cases d <;> simp [hu, hi] at h
  | some i => cases d <;> simp [hu, hi] at h <;> exact ⟨by simp [isAgg, underlying, hu], by rw [<- h]; exact bE hi w⟩
theorem VR.ptr_inv {m : Mp} {b o : Nat} {u : Value} (h : VR m (.pointer (some ⟨b, o, none⟩)) u) : ∃ x y, m b = some (x, y) /\ u = .pointer (some ⟨x, o, none⟩) := by
 simp only [VR] at h;exact h.2
theorem dQ (x o n : Nat) : (⟨x, o, none⟩ : Addr).add n = ⟨x, o + n, none⟩ := by
 unfold Addr.add; split
 ·rename_i h; subst h; rfl
 ·rfl
theorem cN.sees {P : Program} {K : Kp} {B : Nat} {m : Mp} {s : St} {w : World} (E : cN P K B m s w) {b x y : Nat} {f : Nat -> Option Value} (hm : m b = some (x, y)) (h : tF s b f) :
 ∃ cs e fr, w.heap[x]? = some (.cells cs e fr) /\ ∀ j v, f j = some v -> oneCell v = true /\ ∃ v', cs[j]? = some v' /\ VR m v v' := by
 rcases h with ⟨N, c, e, op, hg, rfl⟩ | hg
 ·obtain ⟨o', ho, cs, rfl, _, hcs, _, hon⟩ := E.obj b x y _ hm hg
  exact ⟨cs, e, _, ho, fun j v hj => ⟨(hon j v hj).1, hcs j v hj⟩⟩
 ·obtain ⟨o', ho, cs, e, fr, rfl, h1⟩ := E.obj b x y _ hm hg
  exact ⟨cs, e, fr, ho, h1⟩
theorem Ct {s : St} {b off : Nat} {n : Option Nat} {k : Value -> Bool} (h : qO s b (fun c => Cp c off n k) (fun g => nF g off n k) = true) : ∃ f, tF s b f /\
 match n with
 | none => ∃ v, f off = some v /\ k v = true
 | some n => ∃ l, l.length = n /\ (∀ j, j < n -> f (off + j) = l[j]?) /\ k (.agg ⟨l⟩) = true := by
 rcases wN h with ⟨N, c, e, op, h1, h2⟩ | ⟨g, h1, h2⟩
 ·cases n with
  | none => exact ⟨_, .inl ⟨N, c, e, op, h1, rfl⟩, iK h2⟩
  | some n => obtain ⟨l, h3, h4, h5⟩ := rO (k := fun l => k (.agg ⟨l⟩)) h2; exact ⟨_, .inl ⟨N, c, e, op, h1, rfl⟩, l, h4, h5, h3⟩
 ·cases n with
  | none => exact ⟨_, .inr h1, lC h2⟩
  | some n => obtain ⟨l, h3, h4, h5⟩ := lQ (k := fun l => k (.agg ⟨l⟩)) h2; exact ⟨_, .inr h1, l, h4, h5, h3⟩
theorem vE {m : Mp} {f : Nat -> Option Value} {cs : Array Value} {off : Nat} {l : List Value} (hc : ∀ j v, f j = some v -> ∃ v', cs[j]? = some v' /\ VR m v v') (hl : ∀ j, j < l.length -> f (off + j) = l[j]?) :
 ∃ l', l'.length = l.length /\ LR m l l' /\ ∀ j v, l'[j]? = some v -> cs[off + j]? = some v := by
 refine ⟨(List.range l.length).map (fun j => cs.getD (off + j) undef), sM, LR.of_get sM (fun i v hv => ?_), fun j v hj => ?_⟩
 ·have hi : i < l.length := (List.getElem?_eq_some_iff.1 hv).1
  obtain ⟨v', h1, h2⟩ := hc (off + i) v (by rw [hl i hi]; exact hv);refine ⟨v', ?_, h2⟩;have : cs.getD (off + i) undef = v' := by simp [Array.getD_eq_getD_getElem?, h1]
  simp [hi, <- this, Array.getD_eq_getD_getElem?]
 ·have hi : j < l.length := by
   have := (List.getElem?_eq_some_iff.1 hj).1;simpa using this
  obtain ⟨v', h1, h2⟩ := hc (off + j) (l[j]) (by rw [hl j hi]; exact List.getElem?_eq_getElem hi);simp [hi, h1] at hj;rw [h1, <- hj]
theorem MH {P : Program} {K : Kp} {B : Nat} {m : Mp} {s : St} {w : World} {t : TypeId} {n : Option Nat} {v u : Value} {k : Value -> Bool} (hn : aggOf P t = some n) (E : cN P K B m s w) (hv : VR m v u) (hk : Cq s n v k = true) :
 ∃ r, k r = true /\ ∃ r', (Instr.loadAt t u).run P w = .ok r' w /\ VR m r r' := by
 obtain ⟨b, off, rfl, hk⟩ := kV hk;obtain ⟨x, y, hm, rfl⟩ := hv.ptr_inv;obtain ⟨f, hf, hk⟩ := Ct hk;obtain ⟨cs, e, fr, ho, hcs1⟩ := E.sees hm hf;have hcs : ∀ j v, f j = some v -> ∃ v', cs[j]? = some v' /\ VR m v v' := fun j v hj => (hcs1 j v hj).2
 cases n with
 | none =>
  obtain ⟨v, h1, h2⟩ := hk;obtain ⟨v', h3, h4⟩ := hcs off v h1;refine ⟨v, h2, v', ?_, h4⟩;simp [Instr.loadAt, Instr.sureAddr, loadVar, wP hn, pS ho, h3]
 | some n =>
  obtain ⟨l, h1, h2, h3⟩ := hk;obtain ⟨l', h4, h5, h6⟩ := vE (off := off) hcs (by rw [h1]; exact h2);obtain ⟨ha, hsz⟩ := qQ hn w;refine ⟨_, h3, .agg ⟨l'⟩, ?_, by simp only [VR, AR]; exact ⟨_, rfl, l', rfl, h5⟩⟩;have hl := run_loadCells_list (P := P) w ⟨x, off, none⟩ l' (fun j v hj => by rw [dQ, pS ho]; exact h6 j v hj);rw [h4, h1] at hl;simp [Instr.loadAt, Instr.sureAddr, loadVar, ha, hsz, hl]
theorem Ja {P : Program} {m : Mp} {i N e : Nat} {c c' : BT Value} {op : Bool} {cs : Array Value} {off : Nat} {l l' : List Value} (hN : N <= cs.size) (hcs : ∀ j v, c.get j = some v -> ∃ v', cs[j]? = some v' /\ VR m v v')
 (hop : op = true -> ∃ x y, m i = some (x, y) /\ y * P.cellsOf e = cs.size) (hl : LR m l l') (h1 : ∀ v ∈ l, oneCell v = true) (h2 : ∀ j v, c.get j = some v -> oneCell v = true /\ j < N) (ho : off + l.length <= N) (hg : ∀ j, c'.get j = if off <= j /\ j < off + l.length then l[j - off]? else c.get j) :
 OR P m i (.cells N c' e op) (.cells (cs.toList.take off ++ l' ++ cs.toList.drop (off + l'.length)).toArray e (0, 0)) := by
 have hll := LR.length hl;have hsz : (cs.toList.take off ++ l' ++ cs.toList.drop (off + l'.length)).toArray.size = cs.size := by
  simp [hll]; omega
 refine ⟨_, rfl, by rw [hsz]; exact hN, fun j v hj => ?_, fun h => by obtain ⟨x, y, h1, h2⟩ := hop h; exact ⟨x, y, h1, by rw [hsz]; exact h2⟩, fun j v hj => by
  rw [hg] at hj;by_cases h : off <= j /\ j < off + l.length
  ·rw [if_pos h] at hj; exact ⟨h1 v (List.mem_of_getElem? hj), oM⟩
  ·rw [if_neg h] at hj; exact h2 j v hj⟩
 rw [hg] at hj;have key : (cs.toList.take off ++ l' ++ cs.toList.drop (off + l'.length)).toArray[j]? = if off <= j /\ j < off + l.length then l'[j - off]? else cs[j]? := by
  rw [List.getElem?_toArray];have h1 : (cs.toList.take off).length = off := by simp; omega
  by_cases h2 : j < off
  ·rw [if_neg oM, List.append_assoc, List.getElem?_append_left oM]
   simp [h2]
  ·by_cases h3 : j < off + l.length
   ·rw [if_pos ⟨oM, h3⟩, List.append_assoc, List.getElem?_append_right oM, h1, List.getElem?_append_left oM]
   ·rw [if_neg oM, List.getElem?_append_right (by simp; omega)]
    simp only [List.length_append, h1, List.getElem?_drop];rw [show off + l'.length + (j - (off + l'.length)) = j by omega];simp
 rw [key];by_cases h : off <= j /\ j < off + l.length
 ·rw [if_pos h] at hj ⊢
  exact LR.get hl hj
 ·rw [if_neg h] at hj ⊢
  exact hcs j v hj
theorem Cu (v : Value) : v.oneCell' = oneCell v := by cases v <;> rfl
theorem LR.ones {m : Mp} : ∀ {l l' : List Value}, LR m l l' -> (∀ v ∈ l, oneCell v = true) -> ∀ v ∈ l', v.oneCell' = true
 | [], _, h, _, v, hv => by simp only [LR] at h; subst h; cases hv
 | u :: l, _, h, k, v, hv => by
  simp only [LR] at h;obtain ⟨u', t, rfl, h1, h2⟩ := h;rcases List.mem_cons.1 hv with rfl | hv
  ·rw [Cu, h1.one]; exact k u sM
  ·exact LR.ones h2 (fun x hx => k x (by simp [hx])) v hv
theorem yT {P : Program} {K : Kp} {B : Nat} {m : Mp} {s : St} {w : World} (E : cN P K B m s w) {b x y N e : Nat} {c c' : BT Value} {op : Bool} {off : Nat} {l l' : List Value} {h' : BT dK} (hm : m b = some (x, y)) (hb : s.h.get b = some (.cells N c e op))
 (hl : LR m l l') (h1 : ∀ v ∈ l, oneCell v = true) (ho : off + l.length <= N) (hg : ∀ j, c'.get j = if off <= j /\ j < off + l.length then l[j - off]? else c.get j) (hh : ∀ j, h'.get j = if j = b then some (.cells N c' e op) else s.h.get j) :
 ∃ w', (storeCells ⟨x, off, none⟩ l').run P w = .ok () w' /\ cN P K B m ⟨h', s.n⟩ w' /\ Below B w w' := by
 obtain ⟨o', hx, cs, rfl, hsz, hcs, hop, hon⟩ := E.obj b x y _ hm hb;have hll := LR.length hl;have hrun := run_storeCells_at (P := P) x off e l' 0 cs w hx (by rw [hll]; omega) (hl.ones h1);simp only [Nat.add_zero] at hrun;refine ⟨_, hrun, E.put hm hb sM hh sM (setRow_heap w x cs _ e _ hx) (fun k hk => setRow_other w x k _ hk) (Ja hsz hcs hop hl h1 hon oM hg), ?_⟩;have := E.own hm hb sM;exact oW sM sM sM sM (fun k hk => setRow_other w x k _ oM)
theorem OI {P : Program} {K : Kp} {B : Nat} {m : Mp} {s : St} {w : World} {t : TypeId} {i : TypeInfo} {n : Option Nat} {v u a b : Value} {k : St -> Bool} (hn : aggOf P t = some n) (hi : P.info? t = some i) (h1 : n = none -> i.size = 1)
 (E : cN P K B m s w) (hv : VR m v u) (ha : VR m a b) (hk : I7 s n v a k = true) :
 ∃ s', k s' = true /\ ∃ w', (Instr.storeAt t b u).run P w = .ok () w' /\ cN P K B m s' w' /\ Below B w w' := by
 obtain ⟨g, off, rfl, hk⟩ := kV hk;obtain ⟨x, y, hm, rfl⟩ := ha.ptr_inv;obtain ⟨N, c, e, op, hg, hk⟩ := wM hk;cases n with
 | none =>
  obtain ⟨hone, hk⟩ := Z5 (x := ifB (Nat.blt off N) _ false) hk;obtain ⟨hlt, hk⟩ := Z5 hk;obtain ⟨c', hk, _, hc'⟩ := mC hk;obtain ⟨h', hk, _, hh⟩ := dD hk;have hna : ∀ l, v ≠ .agg l := by rintro l rfl; simp [Ev.oneCell] at hone
  obtain ⟨⟨_, hu⟩, _⟩ := hv.plain hna;have hlt' : off < N := by simpa [Nat.blt_eq] using hlt
  obtain ⟨w', hr, hE, hB⟩ := yT E (off := off) (l := [v]) (l' := [u]) (c' := c') hm hg (by simp only [LR]; exact ⟨u, [], rfl, hv, rfl⟩) (by simpa using hone) (by simp; omega) (fun j => by
   rw [hc'];by_cases hj : j = off
   ·subst hj; simp
   ·rw [if_neg hj, if_neg (by simp; omega)]) hh
  refine ⟨_, hk, w', ?_, hE, hB⟩;simp [Instr.storeAt, Instr.sureAddr, storeVar, bE hi, hu, h1 rfl, hr]
 | some n =>
  obtain ⟨hs1, hs2⟩ := qQ hn w;have hin : i.size = n := by rw [bE hi] at hs2; exact (Result.ok.inj hs2).1
  obtain ⟨l, rfl, hk⟩ := tD hk;obtain ⟨hlen, hk⟩ := Z5 hk;obtain ⟨hle, hk⟩ := Z5 hk;obtain ⟨hall, hk⟩ := Z5 hk;obtain ⟨c', hk, _, hc'⟩ := gX hk;obtain ⟨h', hk, _, hh⟩ := dD hk;simp only [VR, AR] at hv;obtain ⟨_, rfl, l', rfl, hl⟩ := hv;have hlen' : l.length = n := by simpa using hlen
  have hle' : off + n <= N := by simpa using hle
  obtain ⟨w', hr, hE, hB⟩ := yT E (l := l) (l' := l') (c' := c') hm hg hl (pR l hall) oM hc' hh;refine ⟨_, hk, w', ?_, hE, hB⟩;have := LR.length hl;simp [Instr.storeAt, Instr.sureAddr, storeVar, bE hi, Value.cells, hin, this, hlen', hr]
end Go.Proofs.YtjkdkpckjgaplaaGreat.Ev
namespace Go.Proofs.YtjkdkpckjgaplaaGreat.Ev
open Go Go.RowKit
theorem dR {P : Program} {t : TypeId} {z : Array Value} (h : zeroOf P t = some z) : ∃ i v, P.info? t = some i /\ i.zero = some v /\ v.cells = z /\ flatL z.toList = true /\ ∀ u ∈ z.toList, oneCell u = true := by
 unfold zeroOf at h;cases hi : P.info? t with
 | none => simp [hi] at h
 | some i =>
  cases hz : i.zero with
  | none => simp [hi, hz] at h
  | some v =>
   simp only [hi, hz, sel] at h;cases hc : flatA v.cells && v.cells.toList.all oneCell with
   | false => rw [hc] at h; cases h
   | true =>
    rw [hc] at h;simp only [Option.some.injEq] at h;subst h;simp only [Bool.and_eq_true, List.all_eq_true] at hc;refine ⟨i, v, rfl, hz, rfl, ?_, hc.2⟩;have := hc.1;cases hv : v.cells with
    | mk l => rw [hv] at this; exact this
theorem eO {P : Program} {t : TypeId} {i : TypeInfo} {v : Value} (hi : P.info? t = some i) (hz : i.zero = some v) (w : World) : (zeroValue t).run P w = .ok v w := by
 simp [zeroValue, eC hi, hz]
theorem F6 {α : Type} : ∀ (l : List α) (t : BT α) (n : Nat) (j : Nat) (v : α), (t.adds n l).get j = some v -> (∀ i, n <= i -> t.get i = none) -> (n <= j -> l[j - n]? = some v) /\ (j < n -> t.get j = some v) := by
 have add_get : ∀ (t : BT α) (n j : Nat) (x v : α), (t.add n x).get j = some v -> (j = n /\ v = x /\ t.get n = none) ∨ t.get j = some v := by
  intro t
  induction t with
  | leaf =>
   intro n j x v h;unfold BT.add at h;by_cases h0 : n = 0
   ·rw [if_pos h0] at h
    unfold BT.get at h;by_cases hj : j = 0
    ·rw [if_pos hj] at h; cases h; exact .inl ⟨oM, rfl, rfl⟩
    ·rw [if_neg hj] at h; split at h <;> simp [BT.get] at h
   ·rw [if_neg h0] at h; simp [BT.get] at h
  | node a l r il ir =>
   intro n j x v h;unfold BT.add at h;by_cases h0 : n = 0
   ·rw [if_pos h0] at h; exact .inr h
   ·rw [if_neg h0] at h
    by_cases h1 : n % 2 = 1
    ·rw [if_pos h1] at h
     simp only [BT.get] at h ⊢;by_cases hj : j = 0
     ·rw [if_pos hj] at h ⊢; exact .inr h
     ·rw [if_neg hj] at h ⊢
      by_cases hj1 : j % 2 = 1
      ·rw [if_pos hj1] at h ⊢
       rcases il _ _ _ _ h with ⟨e, rfl, hn⟩ | h
       ·refine .inl ⟨oM, rfl, ?_⟩
        rw [if_neg h0, if_pos h1]; exact hn
       ·exact .inr h
      ·rw [if_neg hj1] at h ⊢; exact .inr h
    ·rw [if_neg h1] at h
     simp only [BT.get] at h ⊢;by_cases hj : j = 0
     ·rw [if_pos hj] at h ⊢; exact .inr h
     ·rw [if_neg hj] at h ⊢
      by_cases hj1 : j % 2 = 1
      ·rw [if_pos hj1] at h ⊢; exact .inr h
      ·rw [if_neg hj1] at h ⊢
       rcases ir _ _ _ _ h with ⟨e, rfl, hn⟩ | h
       ·refine .inl ⟨oM, rfl, ?_⟩
        rw [if_neg h0, if_neg h1]; exact hn
       ·exact .inr h
 intro l
 induction l with
 | nil =>
  intro t n j v h hn;refine ⟨fun hj => ?_, fun _ => h⟩;have := hn j hj;simp only [BT.adds] at h;rw [h] at this; cases this
 | cons x l ih =>
  intro t n j v h hn;simp only [BT.adds] at h;have hn' : ∀ i, n + 1 <= i -> (t.add n x).get i = none := by
   intro i hi;cases hg : (t.add n x).get i with
   | none => rfl
   | some u =>
    rcases add_get t n i x u hg with ⟨e, _⟩ | h2
    ·omega
    ·rw [hn i oM] at h2; cases h2
  obtain ⟨h1, h2⟩ := ih (t.add n x) (n + 1) j v h hn';refine ⟨fun hj => ?_, fun hj => ?_⟩
  ·by_cases he : j = n
   ·subst he
    rcases add_get t j j x v (h2 oM) with ⟨_, rfl, _⟩ | h3
    ·simp
    ·rw [hn j (Nat.le_refl _)] at h3; cases h3
   ·have := h1 oM
    rw [show j - n = (j - (n + 1)) + 1 by omega, List.getElem?_cons_succ];exact this
  ·rcases add_get t n j x v (h2 oM) with ⟨e, _⟩ | h3
   ·omega
   ·exact h3
theorem nH {α : Type} {l : List α} {j : Nat} {v : α} (h : (BT.ofList l).get j = some v) : l[j]? = some v := by
 have := (F6 l .leaf 0 j v h (fun _ _ => rfl)).1 (Nat.zero_le _);simpa using this
theorem pT {P : Program} {m : Mp} {i N e : Nat} {c : BT Value} {l l' : List Value} (hc : ∀ j v, c.get j = some v -> l[j]? = some v) (hl : LR m l l') (h1 : ∀ v ∈ l, oneCell v = true) (hN : N = l.length) : OR P m i (.cells N c e false) (.cells ⟨l'⟩ e (0, 0)) := by
 have := LR.length hl;refine ⟨_, rfl, by show N <= l'.length; omega, fun j v hj => ?_, sM, fun j v hj => ⟨h1 v (List.mem_of_getElem? (hc j v hj)), by rw [hN]; exact (List.getElem?_eq_some_iff.1 (hc j v hj)).1⟩⟩;obtain ⟨v', h1, h2⟩ := LR.get hl (hc j v hj);exact ⟨v', by simpa using h1, h2⟩
theorem oX {P : Program} {K : Kp} {B : Nat} {m : Mp} {s : St} {w : World} (E : cN P K B m s w) {o : dK} {o' : Obj} {k : St -> Bool} (y : Nat) (hr : OR P (m.put s.n w.heap.size y) s.n o o') (hk : iH s o k = true) :
 ∃ s', k s' = true /\ cN P K B (m.put s.n w.heap.size y) s' (w.alloc o') /\ Below B w (w.alloc o') /\ m.le (m.put s.n w.heap.size y) /\ s'.n = s.n + 1 := by
 obtain ⟨h', hk, _, hg⟩ := mF hk;exact ⟨_, hk, E.new y hg hr, uL E.base o', Mp.put_le E.none, rfl⟩
theorem F7 {P : Program} {K : Kp} {B : Nat} {m : Mp} {s : St} {w : World} {t : TypeId} {z : Array Value} {k : Value -> St -> Bool} (hz : zeroOf P t = some z) (E : cN P K B m s w)
 (hk : A9 s (fun g => iH s (.cells z.size (.ofList z.toList) t false) (k (ptr g))) = true) :
 ∃ v s', k v s' = true /\ ∃ m' w' u, (Instr.alloc t true (.tuple #[])).run P w = .ok u w' /\ m.le m' /\ cN P K B m' s' w' /\ Below B w w' /\ VR m' v u := by
 obtain ⟨i, v, hi, hv, rfl, hf, h1⟩ := dR hz;have hk := eU hk;have hr : OR P (m.put s.n w.heap.size 0) s.n (.cells v.cells.size (.ofList v.cells.toList) t false) (.cells v.cells t (0, 0)) := by
  have := pT (P := P) (m := m.put s.n w.heap.size 0) (i := s.n) (N := v.cells.size) (e := t) (fun j u h => nH h) (LR.flat v.cells.toList hf) h1 sM;simpa using this
 obtain ⟨s', hk, hE, hB, hle, _⟩ := oX E 0 hr hk;refine ⟨_, s', hk, _, _, .pointer (some ⟨w.heap.size, 0, none⟩), ?_, hle, hE, hB, ?_⟩
 ·simp [Instr.alloc, eO hi hv, newVar, newRow]
 ·simp only [ptr, VR]; exact ⟨trivial, _, _, Mp.put_same _ _ _ _, rfl⟩
theorem M3 {P : Program} {K : Kp} {B : Nat} {m : Mp} {s : St} {w : World} {t : TypeId} {v u : Value} {k : Value -> St -> Bool} (E : cN P K B m s w) (hv : VR m v u) (hk : Fc s t v k = true) :
 ∃ r s', k r s' = true /\ ∃ m' w' r', (Instr.box t u).run P w = .ok r' w' /\ m.le m' /\ cN P K B m' s' w' /\ Below B w w' /\ VR m' r r' := by
 have hk := eU hk;rw [cL] at hk;obtain ⟨l, hl⟩ : ∃ l, v.cells = ⟨l⟩ := ⟨v.cells.toList, rfl⟩;rw [hl] at hk;have hk0 : ifB (dU l) (cI (kN l) (fun m => eB .leaf 0 l (fun c => iH s (.cells m c t false) (k (ptr s.n))))) false = true := hk;obtain ⟨hall, hk'⟩ := Z5 hk0;rw [bB] at hk';obtain ⟨c, hk', _, hc⟩ := tA hk';have hcells := hv.cells;rw [hl] at hcells;have hr : OR P (m.put s.n w.heap.size 0) s.n (.cells (kN l) c t false) (.cells u.cells t (0, 0)) := by
  have := pT (P := P) (m := m.put s.n w.heap.size 0) (i := s.n) (N := kN l) (e := t) (c := c) (l := l) (fun j x h => by
   rw [hc] at h;by_cases hj : 0 <= j /\ j < 0 + l.length
   ·rw [if_pos hj] at h; simpa using h
   ·rw [if_neg hj] at h; simp [BT.get] at h) (LR.mono (Mp.put_le E.none) _ hcells) (pR l hall) (iL l)
  simpa using this
 obtain ⟨s', hk, hE, hB, hle, _⟩ := oX E 0 hr hk';refine ⟨_, s', hk, _, _, .pointer (some ⟨w.heap.size, 0, none⟩), ?_, hle, hE, hB, ?_⟩
 ·simp [Instr.box, newVar, newRow]
 ·simp only [ptr, VR]; exact ⟨trivial, _, _, Mp.put_same _ _ _ _, rfl⟩
theorem OJ {P : Program} {m : Mp} {w : World} {t : TypeId} {fs : Array Field} {f : Nat} {fd : Field} {i : TypeInfo} {v u : Value} {k : Value -> Bool} (ht : P.underlying t = some (.struct fs)) (hf : fs[f]? = some fd) (hi : P.info? fd.type = some i)
 (h0 : i.size ≠ 0) (hv : VR m v u) (hk : Ow v fd.offset k = true) : ∃ r, k r = true /\ ∃ r', (Instr.fieldAt t u f).run P w = .ok r' w /\ VR m r r' := by
 unfold Ow at hk;obtain ⟨b, o, hb, hk2⟩ := kV hk;subst hb;obtain ⟨x, y, hm, rfl⟩ := hv.ptr_inv;rw [bB] at hk2;refine ⟨_, hk2, .pointer (some ⟨x, o + fd.offset, none⟩), ?_, by simp only [VR]; exact ⟨trivial, x, y, hm, rfl⟩⟩;simp [Instr.fieldAt, Y5 ht, hf, Instr.sureAddr, fieldPlace, bE hi, h0, dQ]
theorem VR.slice_inv {m : Mp} {b o n c : Nat} {u : Value} (h : VR m (.slice (some ⟨b, o, none⟩) n c) u) :
 (c < OPEN /\ ∃ x y, m b = some (x, y) /\ u = .slice (some ⟨x, o, none⟩) n c) ∨ (OPEN <= c /\ (c = OPEN ∨ n ≠ 0) /\ ∃ x y, m b = some (x, y) /\ u = .slice (some ⟨x, o, none⟩) n (y - (c - OPEN))) ∨ (OPEN < c /\ n = 0 /\ ∃ a c', u = .slice (some a) 0 c') := by
 simp only [VR] at h;have h := h.2;by_cases h1 : c < OPEN
 ·rw [if_pos h1] at h; exact .inl ⟨h1, h⟩
 ·rw [if_neg h1] at h
  by_cases h2 : c = OPEN ∨ n ≠ 0
  ·rw [if_pos h2] at h; exact .inr (.inl ⟨oM, h2, h⟩)
  ·rw [if_neg h2] at h; exact .inr (.inr ⟨oM, oM, h⟩)
theorem VR.slice_pos {m : Mp} {b o n c : Nat} {u : Value} (h : VR m (.slice (some ⟨b, o, none⟩) n c) u) (hn : n ≠ 0) : ∃ x y c', m b = some (x, y) /\ u = .slice (some ⟨x, o, none⟩) n c' := by
 rcases h.slice_inv with ⟨_, x, y, h1, h2⟩ | ⟨_, _, x, y, h1, h2⟩ | ⟨_, h0, _⟩
 ·exact ⟨x, y, _, h1, h2⟩
 ·exact ⟨x, y, _, h1, h2⟩
 ·exact absurd h0 hn
theorem VR.int_inv {m : Mp} {i : IntKind} {n : Int} {u : Value} (h : VR m (.int i n) u) : u = .int i n := by simpa only [VR] using h
theorem OL {P : Program} {m : Mp} {w : World} {t e : TypeId} {inf : TypeInfo} {v u i j : Value} {k : Value -> Bool} (ht : P.underlying t = some (.slice e)) (hi : P.info? e = some inf)
 (hv : VR m v u) (hj : VR m i j) (hk : Ox v i inf.size k = true) : ∃ r, k r = true /\ ∃ r', (Instr.indexAt t u j).run P w = .ok r' w /\ VR m r r' := by
 rcases eS hk with ⟨_, _, _, h⟩ | ⟨b, o, n, c, rfl, hk⟩
 ·cases h
 obtain ⟨ki, x, rfl, hk⟩ := gY hk;obtain ⟨hlt, hk⟩ := Z5 hk;have hlt' : x < n := by simpa [Nat.blt_eq] using hlt
 have hj' := hj.int_inv;subst hj';obtain ⟨X, y, c', hm, rfl⟩ := hv.slice_pos oM;rw [bB] at hk;refine ⟨_, hk, .pointer (some ⟨X, o + x * inf.size, none⟩), ?_, by simp only [VR]; exact ⟨trivial, X, y, hm, rfl⟩⟩;have h1 : (0 : Int) <= Int.ofNat x /\ Int.ofNat x < (n : Int) := ⟨Int.natCast_nonneg x, by simpa using hlt'⟩;simp [Instr.indexAt, asIntOf, Y5 ht, bE hi, hlt', dQ]
theorem M4 {P : Program} {m : Mp} {w : World} {t e len : Nat} {inf : TypeInfo} {v u i j : Value} {k : Value -> Bool} (ht : P.underlying t = some (.array len e)) (hi : P.info? e = some inf)
 (hv : VR m v u) (hj : VR m i j) (hk : Cr v i len inf.size k = true) : ∃ r, k r = true /\ ∃ r', (Instr.indexAt t u j).run P w = .ok r' w /\ VR m r r' := by
 unfold Cr at hk;obtain ⟨b, o, rfl, hk⟩ := kV hk;obtain ⟨X, y, hm, rfl⟩ := hv.ptr_inv;obtain ⟨ki, x, rfl, hk⟩ := gY hk;obtain ⟨hlt, hk⟩ := Z5 hk;have hlt' : x < len := by simpa [Nat.blt_eq] using hlt
 have hj' := hj.int_inv;subst hj';rw [bB] at hk;refine ⟨_, hk, .pointer (some ⟨X, o + x * inf.size, none⟩), ?_, by simp only [VR]; exact ⟨trivial, X, y, hm, rfl⟩⟩;simp [Instr.indexAt, asIntOf, Y5 ht, bE hi, hlt', dQ, Instr.sureAddr]
theorem LR.drop_take {m : Mp} {l l' : List Value} (h : LR m l l') (i n : Nat) : LR m ((l.drop i).take n) ((l'.drop i).take n) := by
 have hl := LR.length h;refine LR.of_get (by simp [hl]) (fun j v hj => ?_);rw [List.getElem?_take] at hj ⊢;split at hj
 ·rename_i hlt
  rw [if_pos hlt];rw [List.getElem?_drop] at hj ⊢;exact LR.get h hj
 ·cases hj
theorem Dm {P : Program} {m : Mp} {w : World} {t : TypeId} {n : Option Nat} {l l' : List Value} {off : Nat} {k : Value -> Bool} (hn : aggOf P t = some n) (hl : LR m l l') (hk : yR l off n k = true) :
 ∃ r, k r = true /\ ∃ r', (part t ⟨l'⟩ off).run P w = .ok r' w /\ VR m r r' := by
 cases n with
 | none =>
  obtain ⟨v, hv, hk⟩ := Bi (l := l) (i := off) hk;obtain ⟨v', h1, h2⟩ := LR.get hl hv;refine ⟨v, hk, v', ?_, h2⟩;simp [part, wP hn, h1]
 | some n =>
  have hk' : Bb l off n (fun l => k (.agg ⟨l⟩)) = true := hk;obtain ⟨ha, hs⟩ := qQ hn w;refine ⟨_, F5 hk', .agg ⟨(l'.drop off).take n⟩, ?_, by simp only [VR, AR]; exact ⟨_, rfl, _, rfl, hl.drop_take off n⟩⟩;have he : (⟨l'⟩ : Array Value).extract off (off + n) = ⟨(l'.drop off).take n⟩ := by
   apply Array.ext'
   simp [Array.toList_extract, List.extract]
  simp [part, ha, hs, he]
theorem M5 {P : Program} {m : Mp} {w : World} {t : TypeId} {fs : Array Field} {f : Nat} {fd : Field} {n : Option Nat} {v u : Value} {k : Value -> Bool} (ht : P.underlying t = some (.struct fs)) (hf : fs[f]? = some fd) (hn : aggOf P fd.type = some n)
 (hv : VR m v u) (hk : rJ v (fun l => yR l fd.offset n k) = true) : ∃ r, k r = true /\ ∃ r', (Instr.field t u f).run P w = .ok r' w /\ VR m r r' := by
 obtain ⟨l, rfl, hk⟩ := tD hk;simp only [VR, AR] at hv;obtain ⟨_, rfl, l', rfl, hl⟩ := hv;obtain ⟨r, h1, r', h2, h3⟩ := Dm (w := w) hn hl hk;exact ⟨r, h1, r', by simp [Instr.field, Y5 ht, hf, asAgg, h2], h3⟩
theorem OM {P : Program} {m : Mp} {w : World} {t e len : Nat} {inf : TypeInfo} {n : Option Nat} {v u i j : Value} {k : Value -> Bool} (ht : P.underlying t = some (.array len e)) (hi : P.info? e = some inf) (hn : aggOf P e = some n)
 (hv : VR m v u) (hj : VR m i j) (hk : OF v i len inf.size n k = true) : ∃ r, k r = true /\ ∃ r', (Instr.index t u j).run P w = .ok r' w /\ VR m r r' := by
 unfold OF at hk;obtain ⟨l, rfl, hk⟩ := tD hk;simp only [VR, AR] at hv;obtain ⟨_, rfl, l', rfl, hl⟩ := hv;obtain ⟨ki, x, rfl, hk⟩ := gY hk;obtain ⟨hlt, hk⟩ := Z5 hk;have hlt' : x < len := by simpa [Nat.blt_eq] using hlt
 have hj' := hj.int_inv;subst hj';obtain ⟨r, h1, r', h2, h3⟩ := Dm (w := w) hn hl hk;refine ⟨r, h1, r', ?_, h3⟩;have h2' : (part e ⟨l'⟩ (x * inf.size)).run P w = .ok r' w := h2;simp [Instr.index, asIntOf, Y5 ht, bE hi, hlt', h2']
theorem M6 {P : Program} {m : Mp} {w : World} {i : Nat} {v u : Value} {k : Value -> Bool} (hv : VR m v u) (hk : nD v (fun l => Aa l i k) = true) : ∃ r, k r = true /\ ∃ r', (Instr.extract u i).run P w = .ok r' w /\ VR m r r' := by
 obtain ⟨l, rfl, hk⟩ := Bh hk;simp only [VR, AR] at hv;obtain ⟨_, rfl, l', rfl, hl⟩ := hv;obtain ⟨r, h1, hk⟩ := Bi hk;obtain ⟨r', h2, h3⟩ := LR.get hl h1;exact ⟨r, hk, r', by simp [Instr.extract, h2], h3⟩
theorem jX {α : Type} {P : Program} : ∀ {e : Sem α} {a : α}, pureVal P e = some a -> ∀ w, e.run P w = .ok a w := by
 intro e
 induction e with
 | pure a => intro b h w; simp [pureVal] at h; subst h; rfl
 | program k ih => intro b h w; exact ih P (by simpa [pureVal] using h) w
 | mark x k ih => intro b h w; exact ih (by simpa [pureVal] using h) w
 | _ => intro b h w; simp [pureVal] at h
theorem mG {x : Option Value} {v : Value} (h : flatR x = some v) : x = some v /\ flat v = true := by
 cases x with
 | none => simp [flatR] at h
 | some u =>
  unfold flatR at h;cases hu : flat u with
  | true => simp [sel, hu] at h; subst h; exact ⟨rfl, hu⟩
  | false => simp [sel, hu] at h
theorem Af {P : Program} {m : Mp} {w : World} {f : Value -> Sem Value} {v u r : Value} (hv : VR m v u) (h : ev1 P f v = some r) : (f u).run P w = .ok r w /\ VR m r r := by
 unfold ev1 at h;cases hf : flat v with
 | false => simp [sel, hf] at h
 | true =>
  simp only [sel, hf] at h;obtain ⟨h1, h2⟩ := mG h;rw [VR.same v hf hv];exact ⟨jX h1 w, VR.flat r h2⟩
end Go.Proofs.YtjkdkpckjgaplaaGreat.Ev
namespace Go.Proofs.YtjkdkpckjgaplaaGreat.Ev
open Go Go.RowKit
theorem gZ {a b : IntKind} (h : kindEq a b = true) : a = b := by cases a <;> cases b <;> first | rfl | (simp [kindEq] at h)
theorem aB (a b : Int) : intEq a b = (a == b) := by
 apply Bool.eq_iff_iff.2
 cases a <;> cases b <;> simp [intEq, Nat.beq_eq] <;> omega
theorem gG (a b : Int) : intLt a b = decide (a < b) := by
 apply Bool.eq_iff_iff.2
 cases a <;> cases b <;> simp [intLt, Nat.blt_eq] <;> omega
theorem fB (k : IntKind) (n : Int) : wrapq k n = k.wrap n := by
 cases k <;> try rfl
 simp only [wrapq];cases hf : fits n with
 | false => rfl
 | true =>
  show n = IntKind.wrap .i64 n;have hr : -9223372036854775808 <= n /\ n < 9223372036854775808 := by
   cases n with
   | ofNat a => simp only [fits, Nat.blt_eq] at hf; show -9223372036854775808 <= (a : Int) /\ (a : Int) < 9223372036854775808; constructor <;> omega
   | negSucc a => simp only [fits, Nat.blt_eq] at hf; constructor <;> omega
  have e1 : ((2 : Int) ^ IntKind.i64.bits) = 18446744073709551616 := dE
  have e2 : ((2 : Int) ^ (IntKind.i64.bits - 1)) = 9223372036854775808 := dE
  unfold IntKind.wrap;simp only [e1, e2];have e3 : IntKind.i64.signed = true := rfl;rw [e3];simp only [Bool.true_and, decide_eq_true_eq];split <;> omega
theorem Ag {P : Program} {t : Nat} (h : nilKind P t = 5) : P.eqGuardType P.depth t = false := by
 have hs : sel (P.eqGuardType P.depth t) 0 5 = 5 -> P.eqGuardType P.depth t = false := by cases P.eqGuardType P.depth t <;> simp [sel]
 unfold nilKind at h;cases hu : P.underlying t with
 | none => rw [hu] at h; cases h
 | some D =>
  rw [hu] at h;cases D with
  | struct fs => exact hs h
  | array n e => exact hs h
  | _ => cases h
theorem uM {P : Program} {b : BinOp} {t : TypeId} {xo yo : Operand} {x y : Value} (h : noGuard (nilKind P t) x = true) (w : World) : (eqGuard b t xo yo x y).run P w = .ok () w := by
 cases x with
 | agg l =>
  have h5 : nilKind P t = 5 := by simpa [noGuard] using h
  have := Ag h5;unfold eqGuard;cases b <;> simp <;> (cases y <;> simp_all)
 | nilIface => cases h
 | _ =>
  unfold eqGuard;cases b <;> simp
theorem Fd {P : Program} {b : BinOp} {i : IntKind} {x y : Int} {v : Value} (h : intBin b i x y = some v) (t : TypeId) (w : World) : (binOp b t (.int i x) (.int i y)).run P w = .ok v w /\ flat v = true := by
 have hd : ∀ (r : Value), sel (intEq y 0) none (some r) = some v -> y ≠ 0 /\ v = r := by
  intro r h;rw [aB] at h;by_cases hy : y = 0
  ·subst hy; simp [sel] at h
  ·have : (y == 0) = false := by simpa using hy
   rw [this] at h;exact ⟨hy, (Option.some.inj h).symm⟩
 cases b with
 | quo =>
  obtain ⟨hy, rfl⟩ := hd _ h;refine ⟨?_, rfl⟩;simp [binOp, Op.intDiv, hy, fB]
 | rem =>
  obtain ⟨hy, rfl⟩ := hd _ h;refine ⟨?_, rfl⟩;simp [binOp, Op.intDiv, hy]
 | and | or | xor | shl | shr | andNot => simp [intBin] at h
 | add | sub | mul =>
  simp only [intBin, fB, Option.some.injEq] at h;subst h;exact ⟨by simp [binOp, Op.intArith], rfl⟩
 | eql | neq =>
  simp only [intBin, aB, Option.some.injEq] at h;subst h;exact ⟨by simp [binOp, Op.intCmp, bne], rfl⟩
 | lss | gtr =>
  simp only [intBin, gG, Option.some.injEq] at h;subst h;exact ⟨by simp [binOp, Op.intCmp], rfl⟩
 | leq | geq =>
  simp only [intBin, gG, Option.some.injEq] at h;subst h;exact ⟨by simp [binOp, Op.intCmp, <- decide_not], rfl⟩
theorem VR.slice_some {m : Mp} {a : Addr} {n c : Nat} {u : Value} (h : VR m (.slice (some a) n c) u) : ∃ a' n' c', u = .slice (some a') n' c' := by
 simp only [VR] at h;have h := h.2;by_cases h1 : c < OPEN
 ·rw [if_pos h1] at h; obtain ⟨x, y, _, rfl⟩ := h; exact ⟨_, _, _, rfl⟩
 ·rw [if_neg h1] at h
  by_cases h2 : c = OPEN ∨ n ≠ 0
  ·rw [if_pos h2] at h; obtain ⟨x, y, _, rfl⟩ := h; exact ⟨_, _, _, rfl⟩
  ·rw [if_neg h2] at h; obtain ⟨x, y, rfl⟩ := h; exact ⟨_, _, _, rfl⟩
theorem VR.slice_none {m : Mp} {n c : Nat} {u : Value} (h : VR m (.slice none n c) u) : u = .slice none n c := by simp only [VR] at h; exact h.2
theorem VR.ptr_some {m : Mp} {a : Addr} {u : Value} (h : VR m (.pointer (some a)) u) : ∃ a', u = .pointer (some a') := by
 simp only [VR] at h; obtain ⟨_, x, y, _, rfl⟩ := h; exact ⟨_, rfl⟩
theorem VR.func_inv {m : Mp} {f : Fn} {p c : Array Value} {u : Value} (h : VR m (.func f p c) u) : ∃ f' p' c', u = .func f' p' c' := by
 cases f with
 | func g => simp only [VR] at h; obtain ⟨p', c', rfl, _⟩ := h; exact ⟨_, _, _, rfl⟩
 | yield l => simp only [VR] at h; obtain ⟨x, y, p', c', _, rfl, _⟩ := h; exact ⟨_, _, _, rfl⟩
 | _ => simp [VR] at h
theorem Bj {P : Program} {t d : Nat} (hd : nilKind P t = d) (h0 : d ≠ 0) (h5 : d ≠ 5) : ∃ D, P.underlying t = some D /\ ((∃ e, D = .slice e /\ d = 1) ∨ (∃ e, D = .pointer e /\ d = 2) ∨ (∃ a b c, D = .func a b c /\ d = 3) ∨ (∃ e, D = .interface e /\ d = 4)) := by
 unfold nilKind at hd;cases hu : P.underlying t with
 | none => rw [hu] at hd; exact absurd hd.symm h0
 | some D =>
  rw [hu] at hd;refine ⟨D, rfl, ?_⟩;cases D with
  | slice e => exact .inl ⟨e, rfl, hd.symm⟩
  | pointer e => exact .inr (.inl ⟨e, rfl, hd.symm⟩)
  | func a b c => exact .inr (.inr (.inl ⟨a, b, c, rfl, hd.symm⟩))
  | interface e => exact .inr (.inr (.inr ⟨e, rfl, hd.symm⟩))
  | struct fs =>
   have : d = 0 ∨ d = 5 := by rw [<- hd]; show sel (P.eqGuardType P.depth t) 0 5 = 0 ∨ sel (P.eqGuardType P.depth t) 0 5 = 5; cases P.eqGuardType P.depth t <;> simp [sel]
   rcases this with e | e
   ·exact absurd e h0
   ·exact absurd e h5
  | array n e =>
   have : d = 0 ∨ d = 5 := by rw [<- hd]; show sel (P.eqGuardType P.depth t) 0 5 = 0 ∨ sel (P.eqGuardType P.depth t) 0 5 = 5; cases P.eqGuardType P.depth t <;> simp [sel]
   rcases this with e | e
   ·exact absurd e h0
   ·exact absurd e h5
  | _ => exact absurd hd.symm h0
theorem Fe {P : Program} {b : BinOp} {t : TypeId} {u v : Value} (xo yo : Operand) (ha : ∀ l l', ¬ (u = .agg l /\ v = .agg l')) (hni : ¬ (u = .nilIface /\ v = .nilIface)) (w : World) : (eqGuard b t xo yo u v).run P w = .ok () w := by
 have key : ∀ c : Bool, ((do
  if !c then return
  match u, v with
  | .nilIface, .nilIface =>
   if (xo matches .const _) || (yo matches .const _) then return
   if <- Op.eqGuardIn Op.maxDepth t u v then unsupported (.noEntry "binop/eql: two nil values of an interface type with methods, neither of them the literal nil")
  | .agg _, .agg _ =>
   if !(<- program).eqGuardType (<- program).depth t then return
   if <- Op.eqGuardIn Op.maxDepth t u v then unsupported (.noEntry "binop/eql: two nil values of an interface type with methods, in a part of a struct or an array")
  | _, _ => pure ()) : Sem Unit).run P w = .ok () w := by
  intro c;cases c with
  | false => rfl
  | true =>
   simp only [Bool.not_true, Bool.false_eq_true, if_false];split
   ·exact absurd ⟨rfl, rfl⟩ hni
   ·rename_i l l'; exact absurd ⟨rfl, rfl⟩ (ha l l')
   ·rfl
 exact key _
set_option maxHeartbeats 1000000 in
theorem M7 {P : Program} {m : Mp} {t d : Nat} {b : BinOp} {x y u v r : Value} (hd : nilKind P t = d) (hx : VR m x u) (hy : VR m y v) (hn : nilCmp d x y = true) (hr : evNil b = some r) (xo yo : Operand) (w : World) :
 (do eqGuard b t xo yo u v; binOp b t u v : Sem Value).run P w = .ok r w /\ flat r = true := by
 have h0 : d ≠ 0 := by rintro rfl; simp [nilCmp] at hn
 obtain ⟨D, hu, hD⟩ := Bj hd h0 (by rintro rfl; simp [nilCmp] at hn);have h1 : ∀ u v, (Op.equal t u v).run P w = .ok false w -> (∀ xo yo, (eqGuard b t xo yo u v).run P w = .ok () w) -> (∀ b', (b' = .eql ∨ b' = .neq) -> binOp b' t u v = (match b' with | .eql => do pure (.bool (<- Op.equal t u v)) | _ => do pure (.bool (!(<- Op.equal t u v))))) ->
  (do eqGuard b t xo yo u v; binOp b t u v : Sem Value).run P w = .ok r w /\ flat r = true := by
  intro u v he hg hb;cases b <;> simp [evNil] at hr <;> subst hr
  ·refine ⟨?_, rfl⟩
   rw [hb _ (.inl rfl)]; simp [hg, he]
  ·refine ⟨?_, rfl⟩
   rw [hb _ (.inr rfl)]; simp [hg, he]
 have step : ∀ u v, (∀ n, (Op.equalIn (n + 1) t u v).run P w = .ok false w) -> (Op.equal t u v).run P w = .ok false w := fun u v h => h 9999
 have guard : ∀ (u v : Value) xo yo, (∀ l l', ¬ (u = .agg l /\ v = .agg l')) -> ¬ (u = .nilIface /\ v = .nilIface) -> (eqGuard b t xo yo u v).run P w = .ok () w := fun u v xo yo ha hni => Fe xo yo ha hni w
 unfold nilCmp at hn;split at hn
 ·obtain ⟨a', n', c', rfl⟩ := hy.slice_some
  have := hx.slice_none; subst this;rcases hD with ⟨e, rfl, _⟩ | ⟨e, _, h⟩ | ⟨_, _, _, _, h⟩ | ⟨e, _, h⟩ <;> try (simp at h; done)
  refine h1 _ _ ?_ (fun xo yo => guard _ _ xo yo sM sM) (by rintro b' (rfl | rfl) <;> rfl);exact step _ _ (fun n => by unfold Op.equalIn; simp [Y5 hu])
 ·obtain ⟨a', n', c', rfl⟩ := hx.slice_some
  have := hy.slice_none; subst this;rcases hD with ⟨e, rfl, _⟩ | ⟨e, _, h⟩ | ⟨_, _, _, _, h⟩ | ⟨e, _, h⟩ <;> try (simp at h; done)
  refine h1 _ _ ?_ (fun xo yo => guard _ _ xo yo sM sM) (by rintro b' (rfl | rfl) <;> rfl);exact step _ _ (fun n => by unfold Op.equalIn; simp [Y5 hu])
 ·obtain ⟨a', rfl⟩ := hy.ptr_some
  have : u = .pointer none := by simpa only [VR] using hx
  subst this;rcases hD with ⟨e, _, h⟩ | ⟨e, rfl, _⟩ | ⟨_, _, _, _, h⟩ | ⟨e, _, h⟩ <;> try (simp at h; done)
  refine h1 _ _ ?_ (fun xo yo => guard _ _ xo yo sM sM) (by rintro b' (rfl | rfl) <;> rfl);exact step _ _ (fun n => by unfold Op.equalIn; simp [Y5 hu])
 ·obtain ⟨a', rfl⟩ := hx.ptr_some
  have : v = .pointer none := by simpa only [VR] using hy
  subst this;rcases hD with ⟨e, _, h⟩ | ⟨e, rfl, _⟩ | ⟨_, _, _, _, h⟩ | ⟨e, _, h⟩ <;> try (simp at h; done)
  refine h1 _ _ ?_ (fun xo yo => guard _ _ xo yo sM sM) (by rintro b' (rfl | rfl) <;> rfl);exact step _ _ (fun n => by unfold Op.equalIn; simp [Y5 hu])
 ·obtain ⟨f', p', c', rfl⟩ := hy.func_inv
  have : u = .nilFunc := by simpa only [VR] using hx
  subst this;rcases hD with ⟨e, _, h⟩ | ⟨e, _, h⟩ | ⟨_, _, _, rfl, _⟩ | ⟨e, _, h⟩ <;> try (simp at h; done)
  refine h1 _ _ ?_ (fun xo yo => guard _ _ xo yo sM sM) (by rintro b' (rfl | rfl) <;> rfl);exact step _ _ (fun n => by unfold Op.equalIn; simp [Y5 hu])
 ·obtain ⟨f', p', c', rfl⟩ := hx.func_inv
  have : v = .nilFunc := by simpa only [VR] using hy
  subst this;rcases hD with ⟨e, _, h⟩ | ⟨e, _, h⟩ | ⟨_, _, _, rfl, _⟩ | ⟨e, _, h⟩ <;> try (simp at h; done)
  refine h1 _ _ ?_ (fun xo yo => guard _ _ xo yo sM sM) (by rintro b' (rfl | rfl) <;> rfl);exact step _ _ (fun n => by unfold Op.equalIn; simp [Y5 hu])
 ·have : u = .nilIface := by simpa only [VR] using hx
  subst this;simp only [VR] at hy;obtain ⟨v', rfl, _⟩ := hy;rcases hD with ⟨e, _, h⟩ | ⟨e, _, h⟩ | ⟨_, _, _, _, h⟩ | ⟨e, rfl, _⟩ <;> try (simp at h; done)
  refine h1 _ _ ?_ (fun xo yo => guard _ _ xo yo sM sM) (by rintro b' (rfl | rfl) <;> rfl);exact step _ _ (fun n => by unfold Op.equalIn; simp [Y5 hu])
 ·have : v = .nilIface := by simpa only [VR] using hy
  subst this;simp only [VR] at hx;obtain ⟨v', rfl, _⟩ := hx;rcases hD with ⟨e, _, h⟩ | ⟨e, _, h⟩ | ⟨_, _, _, _, h⟩ | ⟨e, rfl, _⟩ <;> try (simp at h; done)
  refine h1 _ _ ?_ (fun xo yo => guard _ _ xo yo sM sM) (by rintro b' (rfl | rfl) <;> rfl);exact step _ _ (fun n => by unfold Op.equalIn; simp [Y5 hu])
 ·cases hn
theorem M8 {P : Program} {m : Mp} {t : Nat} {b : BinOp} {x y u v r : Value} (hx : VR m x u) (hy : VR m y v) (h : evBin P b t (nilKind P t) x y = some r) (xo yo : Operand) (w : World) :
 (do eqGuard b t xo yo u v; binOp b t u v : Sem Value).run P w = .ok r w /\ VR m r r := by
 have two : ∀ {x y u v r : Value}, VR m x u -> VR m y v -> evBin2 P b t (nilKind P t) x y = some r -> (do eqGuard b t xo yo u v; binOp b t u v : Sem Value).run P w = .ok r w /\ VR m r r := by
  intro x y u v r hx hy h;unfold evBin2 at h;cases hf : flat x && flat y && noGuard (nilKind P t) x with
  | false => rw [hf] at h; cases h
  | true =>
   rw [hf] at h;simp only [Bool.and_eq_true] at hf;obtain ⟨h1, h2⟩ := mG (show flatR (pureVal P (binOp b t x y)) = some r from h);rw [VR.same x hf.1.1 hx, VR.same y hf.1.2 hy];refine ⟨?_, VR.flat r h2⟩;rw [Sem.run_bind, uM hf.2];exact jX h1 w
 unfold evBin at h;split at h
 ·rename_i k mm k' nn
  have e1 := hx.int_inv; subst e1;have e2 := hy.int_inv; subst e2;cases hk : kindEq k k' with
  | false => rw [hk] at h; exact two hx hy h
  | true =>
   rw [hk] at h;have := gZ hk; subst this;have h' : orElse (intBin b k mm nn) (evBin2 P b t (nilKind P t) (.int k mm) (.int k nn)) = some r := h;cases hi : intBin b k mm nn with
   | none => rw [hi] at h'; exact two hx hy h'
   | some q =>
    rw [hi] at h';have hq : q = r := Option.some.inj h';subst hq;obtain ⟨h1, h2⟩ := Fd (P := P) hi t w;refine ⟨?_, VR.flat _ h2⟩;rw [Sem.run_bind, uM (by rfl)];exact h1
 ·cases hc : nilCmp (nilKind P t) x y with
  | true =>
   rw [hc] at h;obtain ⟨h1, h2⟩ := M7 (P := P) (t := t) J hx hy hc (show evNil b = some r from h) xo yo w;exact ⟨h1, VR.flat _ h2⟩
  | false => rw [hc] at h; exact two hx hy h
end Go.Proofs.YtjkdkpckjgaplaaGreat.Ev
namespace Go.Proofs.YtjkdkpckjgaplaaGreat.Ev
open Go Go.RowKit
def VO (m : Mp) : Option Value -> Option Value -> Prop
 | none, v => v = none
 | some u, v => ∃ u', v = some u' /\ VR m u u'
theorem Ff {v : Value} {n : Nat} (h : natOf v = some n) : ∃ k, v = .int k (.ofNat n) := by
 unfold natOf at h;split at h
 ·rename_i k j; cases h; exact ⟨k, rfl⟩
 ·cases h
theorem kW {P : Program} {m : Mp} {v u : Value} {n y : Nat} (hv : VR m v u) (h : natOf v = some n) (hle : n <= y) (code : BoundsCode) (w : World) : (Instr.sliceBound u y code).run P w = .ok n w := by
 obtain ⟨k, rfl⟩ := Ff h;have := hv.int_inv; subst this;simp [Instr.sliceBound, asIntOf, hle]
theorem jM {P : Program} {m : Mp} {lo hi mx lo' hi' mx' : Option Value} {len cap l h : Nat} {M : Option Nat} (h1 : VO m lo lo') (h2 : VO m hi hi') (h3 : VO m mx mx') (b1 : bnd 0 lo = some l) (b2 : bnd len hi = some h) (b3 : evMx mx = some M)
 (hx : mx.isNone = true ∨ hi.isSome = true) (hl : l <= h) (hh : hi.isSome = true -> h <= M.getD cap) (hM : ∀ n, M = some n -> n <= cap) (w : World) :
 (Instr.sliceBounds true len cap lo' hi' mx').run P w = .ok (l, h, M.getD cap) w := by
 cases mx with
 | none =>
  simp only [VO] at h3; subst h3;simp only [evMx, Option.some.injEq] at b3;subst b3;cases hi with
  | none =>
   simp only [VO] at h2; subst h2;simp only [bnd, Option.some.injEq] at b2;subst b2;cases lo with
   | none => simp only [VO] at h1; subst h1; simp only [bnd, Option.some.injEq] at b1; subst b1; simp [Instr.sliceBounds]
   | some v => obtain ⟨u, rfl, hv⟩ := h1; simp [Instr.sliceBounds, kW hv (show natOf v = some l from b1) hl]
  | some a =>
   obtain ⟨a', rfl, ha⟩ := h2;have e2 := fun c => kW (P := P) ha (show natOf a = some h from b2) (show h <= cap from hh rfl) c w
   cases lo with
   | none => simp only [VO] at h1; subst h1; simp only [bnd, Option.some.injEq] at b1; subst b1; simp [Instr.sliceBounds, e2]
   | some v => obtain ⟨u, rfl, hv⟩ := h1; simp [Instr.sliceBounds, e2, kW hv (show natOf v = some l from b1) hl]
 | some q =>
  obtain ⟨q', rfl, hq⟩ := h3;cases hn : natOf q with
  | none => simp [evMx, hn] at b3
  | some n =>
   simp only [evMx, hn, Option.map_some, Option.some.injEq] at b3;subst b3;have e3 := fun c => kW (P := P) hq hn (hM n rfl) c w
   rcases hx with hx | hx
   ·cases hx
   cases hi with
   | none => cases hx
   | some a =>
    obtain ⟨a', rfl, ha⟩ := h2;have e2 := fun c => kW (P := P) ha (show natOf a = some h from b2) (show h <= n from hh rfl) c w
    cases lo with
    | none => simp only [VO] at h1; subst h1; simp only [bnd, Option.some.injEq] at b1; subst b1; simp [Instr.sliceBounds, e2, e3]
    | some v => obtain ⟨u, rfl, hv⟩ := h1; simp [Instr.sliceBounds, e2, e3, kW hv (show natOf v = some l from b1) hl]
theorem bU {α : Type} {b : Bool} {x : Option α} {v : α} (h : sel b x none = some v) : b = true /\ x = some v := by cases b <;> simp_all [sel]
theorem qR {α : Type} (b : Bool) (x y : α) : sel b x y = if b = true then x else y := by cases b <;> rfl
theorem M9 {P : Program} {K : Kp} {B : Nat} {m : Mp} {s : St} {w : World} {t e : Nat} {i : TypeInfo} {x u r : Value} {lo hi mx lo' hi' mx' : Option Value} (ht : P.underlying t = some (.slice e)) (hin : P.info? e = some i) (hx : mx.isNone = true ∨ hi.isSome = true)
 (E : cN P K B m s w) (hv : VR m x u) (h1 : VO m lo lo') (h2 : VO m hi hi') (h3 : VO m mx mx') (h : evSlc (iI s) e i.size x lo hi mx = some r) :
 ∃ r', (Instr.slice t u lo' hi' mx').run P w = .ok r' w /\ VR m r r' := by
 unfold evSlc at h;split at h
 ·rename_i b off len cap
  split at h
  ·rename_i l hh M b1 b2 b3
   rw [qR] at h;split at h
   ·-- an open row
    rename_i hop
    have hop' : OPEN <= cap := by simpa using hop
    split at h
    ·rename_i k e' op hrow
     obtain ⟨hc, hS⟩ := bU h;clear h;simp only [Bool.and_eq_true, Bool.or_eq_true, Bool.not_eq_true', Nat.beq_eq] at hc;obtain ⟨⟨⟨⟨hop1, hee⟩, hoff⟩, hsz⟩, hj⟩ := hc;have hee' : e = e' := by simpa using hee
     subst hee';have hsz' : i.size ≠ 0 := by intro h0; rw [h0] at hsz; simp at hsz
     have hoff' : off = (cap - OPEN) * i.size := by simpa using hoff
     obtain ⟨N, c, hg, hN⟩ : ∃ N c, s.h.get b = some (.cells N c e true) /\ N = k := by
      unfold iI at hrow;split at hrow
      ·rename_i n c e2 op2 hg
       simp only [Option.some.injEq, Prod.mk.injEq] at hrow;obtain ⟨rfl, rfl, rfl⟩ := hrow;subst hop1;exact ⟨_, _, hg, rfl⟩
      ·cases hrow
     subst hN;have hcell : P.cellsOf e = i.size := by simp [Program.cellsOf, hin]
     have hj' : cap = OPEN ∨ len ≠ 0 := by
      rcases hj with h0 | h0
      ·exact .inl (by simpa using h0)
      ·exact .inr (by intro h5; rw [h5] at h0; simp at h0)
     obtain ⟨X, y, hm, hu⟩ : ∃ X y, m b = some (X, y) /\ u = .slice (some ⟨X, off, none⟩) len (y - (cap - OPEN)) := by
      rcases hv.slice_inv with ⟨h5, _⟩ | ⟨_, _, X, y, h5, h6⟩ | ⟨h5, h6, _⟩
      ·omega
      ·exact ⟨X, y, h5, h6⟩
      ·rcases hj' with h7 | h7 <;> omega
     subst hu;obtain ⟨o', _, cs, rfl, hNs, _, hopn, _⟩ := E.obj b X y _ hm hg;obtain ⟨X2, y2, hm2, hy⟩ := hopn rfl;rw [hm] at hm2; cases hm2;rw [hcell] at hy;obtain ⟨j, hjd⟩ : ∃ j, cap - OPEN = j := ⟨_, rfl⟩;rw [hjd] at hS hoff' ⊢;have fit : ∀ n, n * i.size <= N -> n <= y := fun n hn => Nat.le_of_mul_le_mul_right (by omega : n * i.size <= y * i.size) oM
     unfold evSlcOpen at hS;cases M with
     | none =>
      obtain ⟨hd, hq⟩ := bU hS;simp only [Bool.and_eq_true, Nat.ble_eq] at hd;have hfit := fit (j + hh) hd.2;have hq := Option.some.inj hq;subst hq;have hr := jM (P := P) (cap := y - j) h1 h2 h3 b1 b2 b3 hx hd.1 (fun _ => by show hh <= y - j; omega) (fun n hn => by cases hn) w;refine ⟨.slice (some (if y - j = l then ⟨X, off, none⟩ else (⟨X, off, none⟩ : Addr).add (l * i.size))) (hh - l) (y - j - l), ?_, ?_⟩
      ·simp only [Instr.slice, Sem.run_bind, Y5 ht, Result.andThen_ok, hr, bE hin, Option.getD_none]
       split <;> simp_all
      ·simp only [VR]
       refine ⟨trivial, ?_⟩;rw [if_neg oM];by_cases h0 : j + l = 0 ∨ hh - l ≠ 0
       ·rw [if_pos (by
         rcases h0 with h0 | h0; · left; omega
         ·right; exact h0)]
        refine ⟨X, y, hm, ?_⟩;have e1 : OPEN + (j + l) - OPEN = j + l := oM
        rw [e1];by_cases hml : y - j = l
        ·have : l = 0 /\ j = 0 := oM
         obtain ⟨rfl, rfl⟩ := this;rw [if_pos hml, hoff'];simp
        ·rw [if_neg hml, dQ, hoff', Nat.add_mul, show y - j - l = y - (j + l) by omega]
       ·rw [if_neg oM]
        have : hh - l = 0 := oM
        exact ⟨_, _, by rw [this]⟩
     | some M =>
      obtain ⟨hd, hq⟩ := bU hS;simp only [Bool.and_eq_true, Nat.ble_eq, Nat.blt_eq] at hd;have hfit := fit (j + M) hd.2;have hq := Option.some.inj hq;subst hq;have hr := jM (P := P) (cap := y - j) h1 h2 h3 b1 b2 b3 hx hd.1.1.1 (fun _ => hd.1.1.2) (fun n hn => by cases hn; omega) w;refine ⟨.slice (some (if M = l then ⟨X, off, none⟩ else (⟨X, off, none⟩ : Addr).add (l * i.size))) (hh - l) (M - l), ?_, ?_⟩
      ·simp only [Instr.slice, Sem.run_bind, Y5 ht, Result.andThen_ok, hr, bE hin, Option.getD_some]
       split <;> simp_all
      ·simp only [VR]
       refine ⟨trivial, ?_⟩;rw [if_pos oM];refine ⟨X, y, hm, ?_⟩;rw [qR];by_cases hml : M = l
       ·rw [if_pos hml, if_pos (by simpa using hml), hoff']
       ·rw [if_neg hml, if_neg (by simpa using hml), dQ, hoff', Nat.add_mul]
    ·cases h
   ·-- a row whose cap is known
    rename_i hop
    have hop' : cap < OPEN := by
     have : ¬ OPEN <= cap := by simpa using hop
     omega
    obtain ⟨hhc, h⟩ := bU h;have hhc' : hh <= cap := by simpa using hhc
    obtain ⟨X, y, hm, hu⟩ : ∃ X y, m b = some (X, y) /\ u = .slice (some ⟨X, off, none⟩) len cap := by
     rcases hv.slice_inv with ⟨_, X, y, h5, h6⟩ | ⟨h5, _⟩ | ⟨h5, _⟩
     ·exact ⟨X, y, h5, h6⟩
     ·omega
     ·omega
    subst hu;unfold evSlcAt at h;cases M with
    | none =>
     obtain ⟨hc, h⟩ := bU h;have hc' : l <= hh := by simpa using hc
     cases h;have hr := jM (P := P) (cap := cap) h1 h2 h3 b1 b2 b3 hx hc' (fun _ => hhc') (fun n hn => by cases hn) w;refine ⟨.slice (some (if cap = l then ⟨X, off, none⟩ else (⟨X, off, none⟩ : Addr).add (l * i.size))) (hh - l) (cap - l), ?_, ?_⟩
     ·simp only [Instr.slice, Sem.run_bind, Y5 ht, Result.andThen_ok, hr, bE hin, Option.getD_none]
      split <;> simp_all
     ·simp only [VR]
      refine ⟨trivial, ?_⟩;rw [if_pos oM];refine ⟨X, y, hm, ?_⟩;rw [qR];by_cases hml : cap = l
      ·rw [if_pos hml, if_pos (by simpa using hml)]
      ·rw [if_neg hml, if_neg (by simpa using hml), dQ]
    | some M =>
     obtain ⟨hc, h⟩ := bU h;simp only [Bool.and_eq_true, Nat.ble_eq] at hc;cases h;have hr := jM (P := P) (cap := cap) h1 h2 h3 b1 b2 b3 hx hc.1.1 (fun _ => hc.1.2) (fun n hn => by cases hn; exact hc.2) w;refine ⟨.slice (some (if M = l then ⟨X, off, none⟩ else (⟨X, off, none⟩ : Addr).add (l * i.size))) (hh - l) (M - l), ?_, ?_⟩
     ·simp only [Instr.slice, Sem.run_bind, Y5 ht, Result.andThen_ok, hr, bE hin, Option.getD_some]
      split <;> simp_all
     ·simp only [VR]
      refine ⟨trivial, ?_⟩;rw [if_pos oM];refine ⟨X, y, hm, ?_⟩;rw [qR];by_cases hml : M = l
      ·rw [if_pos hml, if_pos (by simpa using hml)]
      ·rw [if_neg hml, if_neg (by simpa using hml), dQ]
  ·cases h
 ·-- nil
  have hu := hv.slice_none;subst hu;split at h
  ·rename_i b1 b2 b3
   cases h;have hr := jM (P := P) (len := 0) (cap := 0) h1 h2 h3 b1 b2 b3 hx (Nat.le_refl 0) (fun _ => Nat.le_refl _) (fun n hn => by cases hn) w;refine ⟨.slice none 0 0, ?_, by simp only [VR]; exact ⟨dE, trivial⟩⟩;simp only [Instr.slice, Sem.run_bind, Y5 ht, Result.andThen_ok, hr, bE hin, Option.getD_none];rfl
  ·rename_i b1 b2 b3
   cases h;have hr := jM (P := P) (len := 0) (cap := 0) h1 h2 h3 b1 b2 b3 hx (Nat.le_refl 0) (fun _ => Nat.le_refl _) (fun n hn => by cases hn; exact Nat.le_refl _) w;refine ⟨.slice none 0 0, ?_, by simp only [VR]; exact ⟨dE, trivial⟩⟩;simp only [Instr.slice, Sem.run_bind, Y5 ht, Result.andThen_ok, hr, bE hin, Option.getD_some];rfl
  ·cases h
 ·cases h
theorem Na {P : Program} {m : Mp} {s : St} {w : World} {ts : Array Nat} {t0 e : Nat} {v u : Value} {k : Value -> St -> Bool} {ty : Nat} (h0 : ts[0]? = some t0) (ht : P.underlying t0 = some (.slice e)) (hv : VR m v u)
 (hk : eK v (fun n _ => k (.int .i64 (.ofNat n)) s) (fun _ _ n _ => k (.int .i64 (.ofNat n)) s) = true) :
 ∃ r, k r s = true /\ (Builtin.len_ ts ty #[u]).run P w = .ok r w /\ VR m r r := by
 have run : ∀ a n c, (Builtin.len_ ts ty #[.slice a n c]).run P w = .ok (.int .i64 n) w := by
  intro a n c;simp [Builtin.len_, h0, Y5 ht, goInt]
 rcases eS hk with ⟨n, c, rfl, hk⟩ | ⟨b, o, n, c, rfl, hk⟩
 ·have := hv.slice_none; subst this
  exact ⟨_, hk, run _ _ _, by simp only [VR]⟩
 ·refine ⟨_, hk, ?_, by simp only [VR]⟩
  rcases hv.slice_inv with ⟨_, X, y, _, rfl⟩ | ⟨_, _, X, y, _, rfl⟩ | ⟨_, rfl, a, c', rfl⟩
  ·exact run _ _ _
  ·exact run _ _ _
  ·exact run _ _ _
theorem Nb {P : Program} {m : Mp} {w : World} {ts : Array Nat} {t0 e : Nat} {v u r : Value} {ty : Nat} (h0 : ts[0]? = some t0) (ht : P.underlying t0 = some (.slice e)) (hv : VR m v u) (h : evCap v = some r) :
 (Builtin.cap_ ts ty #[u]).run P w = .ok r w /\ VR m r r := by
 have run : ∀ a n c, (Builtin.cap_ ts ty #[.slice a n c]).run P w = .ok (.int .i64 c) w := by
  intro a n c;simp [Builtin.cap_, h0, Y5 ht, goInt]
 unfold evCap at h;split at h
 ·rename_i a n c
  rw [qR] at h;split at h
  ·cases h
  ·rename_i hc
   have hc' : c < OPEN := by
    have : ¬ OPEN <= c := by simpa using hc
    omega
   cases h;refine ⟨?_, by simp only [VR]⟩;cases a with
   | none => have := hv.slice_none; subst this; exact run _ _ _
   | some a =>
    simp only [VR] at hv;have hv := hv.2;rw [if_pos hc'] at hv;obtain ⟨X, y, _, rfl⟩ := hv;exact run _ _ _
 ·cases h
theorem Jb {m : Mp} {v u r : Value} (hv : VR m v u) (h : evNilc v = some r) : (∃ a, u = .pointer (some a)) ∨ ∃ f p c, u = .func (.func f) p c := by
 unfold evNilc at h;split at h
 ·obtain ⟨a, rfl⟩ := hv.ptr_some; exact .inl ⟨a, rfl⟩
 ·simp only [VR] at hv
  obtain ⟨p', c', rfl, _⟩ := hv;exact .inr ⟨_, _, _, rfl⟩
 ·cases h
end Go.Proofs.YtjkdkpckjgaplaaGreat.Ev
namespace Go.Proofs.YtjkdkpckjgaplaaGreat.Ev
open Go Go.RowKit
theorem bV (z : List Value) : ∀ c, (repeatN z c).length = c * z.length
 | 0 => by simp [repeatN]
 | c + 1 => by simp [repeatN, bV z c, Nat.add_mul]; omega
theorem uO (z : List Value) : ∀ (c j : Nat), j < c * z.length -> (repeatN z c)[j]? = z[j % z.length]?
 | 0, j, h => by simp at h
 | c + 1, j, h => by
  simp only [repeatN];by_cases hj : j < z.length
  ·rw [List.getElem?_append_left hj, Nat.mod_eq_of_lt hj]
  ·have h1 : z.length <= j := oM
   have h2 : j - z.length < c * z.length := by rw [Nat.add_mul] at h; omega
   rw [List.getElem?_append_right h1, uO z c _ h2, Nat.mod_eq_sub_mod h1]
theorem fV {z : List Value} (h : flatL z = true) : ∀ c, flatL (repeatN z c) = true := by
 have app : ∀ (a b : List Value), flatL a = true -> flatL b = true -> flatL (a ++ b) = true := by
  intro a
  induction a with
  | nil => intro b _ hb; exact hb
  | cons x a ih =>
   intro b ha hb;simp only [List.cons_append, flatL, Bool.and_eq_true] at ha ⊢;exact ⟨ha.1, ih b ha.2 hb⟩
 intro c
 induction c with
 | zero => rfl
 | succ c ih => exact app z _ h ih
theorem hJ {z : List Value} (h : ∀ v ∈ z, oneCell v = true) (c : Nat) : ∀ v ∈ repeatN z c, oneCell v = true := by
 induction c with
 | zero => intro v hv; cases hv
 | succ c ih =>
  intro v hv;rcases List.mem_append.1 hv with hv | hv
  ·exact h v hv
  ·exact ih v hv
theorem jY (z : Array Value) (c : Nat) : ((Array.range (c * z.size)).map (fun j => z[j % z.size]!)) = ⟨repeatN z.toList c⟩ := by
 apply Array.ext'
 simp only [Array.toList_map, Array.toList_range]
 apply List.ext_getElem?
 intro j;have hl : z.toList.length = z.size := rfl;by_cases hj : j < c * z.size
 ·rw [uO z.toList c j (by rw [hl]; exact hj)]
  have h0 : 0 < z.size := by
   rcases Nat.eq_zero_or_pos z.size with h | h; · rw [h] at hj; simp at hj
   ·exact h
  have hm : j % z.size < z.size := Nat.mod_lt _ h0;simp [hj, hm]
 ·rw [List.getElem?_eq_none (by simp; omega), List.getElem?_eq_none (by rw [bV, hl]; omega)]
theorem iP {l : List Value} {k : BT Value -> Bool} (h : eB .leaf 0 l k = true) : ∃ c, k c = true /\ ∀ j v, c.get j = some v -> l[j]? = some v := by
 obtain ⟨c, hk, _, hc⟩ := tA h;refine ⟨c, hk, fun j v hj => ?_⟩;rw [hc] at hj;by_cases h0 : 0 <= j /\ j < 0 + l.length
 ·rw [if_pos h0] at hj; simpa using hj
 ·rw [if_neg h0] at hj; simp [BT.get] at hj
theorem Nc {P : Program} {K : Kp} {B : Nat} {m : Mp} {s : St} {w : World} {t e : Nat} {i : TypeInfo} {z : Array Value} {a a' b b' : Value} {k : Value -> St -> Bool} (ht : P.underlying t = some (.slice e)) (hi : P.info? e = some i) (hz : zeroOf P e = some z) (hs : z.size = i.size)
 (E : cN P K B m s w) (ha : VR m a a') (hb : VR m b b') (hk : Be s e i.size i.bytes z.toList a b k = true) :
 ∃ r s', k r s' = true /\ ∃ m' w' r', (Instr.makeSlice t a' b').run P w = .ok r' w' /\ m.le m' /\ cN P K B m' s' w' /\ Below B w w' /\ VR m' r r' := by
 obtain ⟨i', v, hi2, hv, hvz, hf, h1⟩ := dR hz;rw [hi] at hi2; cases hi2;unfold Be at hk;obtain ⟨ka, na, rfl, hk⟩ := tC hk;obtain ⟨kb, nb, rfl, hk1⟩ := tC hk;clear hk;obtain ⟨h2, hk2⟩ := Z5 hk1;clear hk1;obtain ⟨h3, hk3⟩ := Z5 hk2;clear hk2;have := gZ h2; subst this;have := gZ h3; subst this;obtain ⟨_, l, hl, hk4⟩ := gY hk3;clear hk3;cases hl;obtain ⟨_, c, hc, hk5⟩ := gY hk4;clear hk4;cases hc;obtain ⟨h4, hk6⟩ := Z5 hk5;clear hk5;obtain ⟨h5, hk7⟩ := Z5 hk6;clear hk6;obtain ⟨h6, hk8⟩ := Z5 hk7;clear hk7;have h4' : l <= c := by simpa using h4
 have h5' : c <= 1048576 := by simpa using h5
 have h6' : i.bytes * c <= 1073741824 := by simpa using h6
 obtain ⟨tr, hk9, htr⟩ := iP hk8;have hk10 := eU hk9;rw [bB] at hk10;have hr : OR P (m.put s.n w.heap.size 0) s.n (.cells (Nat.mul c i.size) tr e false) (.cells ⟨repeatN z.toList c⟩ e (0, 0)) :=
  pT htr (LR.flat _ (fV hf c)) (hJ h1 c) (by rw [bV]; show c * i.size = c * z.size; rw [hs])
 obtain ⟨s', hk, hE, hB, hle, _⟩ := oX E 0 hr hk10;have ea := ha.int_inv; subst ea;have eb := hb.int_inv; subst eb;refine ⟨_, s', hk, _, _, .slice (some ⟨w.heap.size, 0, none⟩) l c, ?_, hle, hE, hB, ?_⟩
 ·have w1 : IntKind.i64.wrap (Int.ofNat l) = l := by
   rw [<- fB]; simp only [wrapq]; have : fits (Int.ofNat l) = true := by simp only [fits, Nat.blt_eq]; omega
   rw [this]; rfl
  have w2 : IntKind.i64.wrap (Int.ofNat c) = c := by
   rw [<- fB]; simp only [wrapq]; have : fits (Int.ofNat c) = true := by simp only [fits, Nat.blt_eq]; omega
   rw [this]; rfl
  have hz2 : (if c * i.size = 0 then pure #[] else do pure (<- zeroValue e).cells : Sem (Array Value)).run P w = .ok (if c * i.size = 0 then #[] else z) w := by
   by_cases h0 : c * i.size = 0
   ·rw [if_pos h0, if_pos h0]; rfl
   ·rw [if_neg h0, if_neg h0, Sem.run_bind, eO hi hv]
    show Result.ok v.cells w = _;rw [hvz]
  have hcell : (Array.range (c * i.size)).map (fun j => (if c * i.size = 0 then #[] else z)[j % (if c * i.size = 0 then #[] else z).size]!) = ⟨repeatN z.toList c⟩ := by
   by_cases h0 : c * i.size = 0
   ·rw [h0]
    apply Array.ext'
    have : (repeatN z.toList c).length = 0 := by rw [bV]; show c * z.size = 0; rw [hs]; exact h0
    have e0 := List.eq_nil_of_length_eq_zero this;simp only [e0, Array.toList_map, Array.toList_range, List.range_zero, List.map_nil]
   ·rw [if_neg h0, <- hs]; exact jY z c
  have hb1 : ¬ (i.bytes : Int) * (c : Int) > 2 ^ 48 := by
   rw [<- Int.natCast_mul];omega
  have hc0 : ¬ ((c : Int) < 0) := oM
  have hl0 : ¬ ((l : Int) < 0) := oM
  have hlc : ¬ ((l : Int) > (c : Int)) := oM
  unfold Instr.makeSlice;simp only [Sem.run_bind, Y5 ht, Result.andThen_ok, asInt, asIntOf, Sem.run_pure, eC hi, w1, w2];rw [if_neg (by simp only [hc0, hl0, hlc, hb1, decide_false, Bool.or_self, Bool.false_eq_true, not_false_eq_true])];simp only [Sem.run_bind, run_askRoom, bE hi, Result.andThen_ok, Int.toNat_natCast, Sem.run_ite];by_cases h0 : c * i.size = 0
  ·rw [if_pos h0]
   rw [if_pos h0] at hcell;simp only [Sem.run_bind, Sem.run_pure, Result.andThen_ok, newRow, run_newObj];rw [hcell]; rfl
  ·rw [if_neg h0]
   rw [if_neg h0] at hcell;simp only [Sem.run_bind, Sem.run_pure, Result.andThen_ok, newRow, run_newObj, eO hi hv, hvz];rw [hcell]; rfl
 ·simp only [VR]
  refine ⟨trivial, ?_⟩;rw [if_pos (by unfold OPEN; omega)];exact ⟨_, _, Mp.put_same _ _ _ _, rfl⟩
theorem F8 {P : Program} {K : Kp} {B : Nat} {m : Mp} {s : St} {w : World} {ts : Array Nat} {t0 e ty : Nat} {i : TypeInfo} {z : Array Value} {x u : Value} {k : Value -> St -> Bool} (h0 : ts[0]? = some t0) (ht : P.underlying t0 = some (.slice e)) (hi : P.info? e = some i) (hz : zeroOf P e = some z) (hs : z.size = i.size)
 (E : cN P K B m s w) (hx : VR m x u) (hk : Ab s i.size z.toList x k = true) :
 ∃ s', k (.tuple #[]) s' = true /\ ∃ w', (Builtin.clear_ ts ty #[u]).run P w = .ok (.tuple #[]) w' /\ cN P K B m s' w' /\ Below B w w' := by
 obtain ⟨i', v, hi2, hv, hvz, hf, h1⟩ := dR hz;rw [hi] at hi2; cases hi2;unfold Ab at hk;have zero : ∀ a c, (Builtin.clear_ ts ty #[.slice a 0 c]).run P w = .ok (.tuple #[]) w := by
  intro a c;cases a <;> simp [Builtin.clear_, h0, Y5 ht]
 rcases eS hk with ⟨n, c, rfl, hk1⟩ | ⟨b, off, n, c, rfl, hk1⟩
 ·have := hx.slice_none; subst this
  exact ⟨s, hk1, w, by simp [Builtin.clear_, h0, Y5 ht], E, Below.refl _ _⟩
 ·rcases lB hk1 with ⟨hn, hk2⟩ | ⟨hn, hk2⟩
  ·have hn' : n = 0 := by simpa using hn
   subst hn';refine ⟨s, hk2, w, ?_, E, Below.refl _ _⟩;rcases hx.slice_inv with ⟨_, X, y, _, rfl⟩ | ⟨_, _, X, y, _, rfl⟩ | ⟨_, _, a, c', rfl⟩ <;> exact zero _ _
  ·have hn' : n ≠ 0 := by intro h; subst h; simp at hn
   obtain ⟨X, y, c', hm, rfl⟩ := hx.slice_pos hn';obtain ⟨N, tr, e', op, hg, hk3⟩ := wM hk2;obtain ⟨hle, hk4⟩ := Z5 hk3;have hle' : off + n * i.size <= N := by simpa using hle
   obtain ⟨tr', hk5, _, htr⟩ := gX hk4;obtain ⟨h', hk6, _, hh⟩ := dD hk5;have hl : (repeatN z.toList n).length = n * i.size := by rw [bV]; show n * z.size = _; rw [hs]
   obtain ⟨w', hr, hE, hB⟩ := yT E (off := off) (l := repeatN z.toList n) (l' := repeatN z.toList n) hm hg (LR.flat _ (fV hf n)) (hJ h1 n) (by rw [hl]; exact hle') htr hh;refine ⟨_, hk6, w', ?_, hE, hB⟩;obtain ⟨n', rfl⟩ : ∃ n', n = n' + 1 := ⟨n - 1, oM⟩;have hzc : Builtin.zeroCells z (n' + 1) = ⟨repeatN z.toList (n' + 1)⟩ := jY z (n' + 1);simp [Builtin.clear_, h0, Y5 ht, eO hi hv, hvz, hzc, hr]
theorem F9 {P : Program} {K : Kp} {B : Nat} {m : Mp} {s : St} {w : World} {b off n c j sz : Nat} {u : Value} {k : List Value -> Bool} (E : cN P K B m s w) (hv : VR m (.slice (some ⟨b, off, none⟩) n c) u) (hj : j <= n)
 (hk : qO s b (fun tr => lN tr off (j * sz) k) (fun g => eL g off (j * sz) k) = true) : ∃ f l l', tF s b f /\ k l = true /\ l.length = j * sz /\ (∀ i, i < j * sz -> f (off + i) = l[i]?) /\ LR m l l' /\ (Builtin.firstCells sz j u).run P w = .ok ⟨l'⟩ w := by
 obtain ⟨f, l, hf, hk, hl, hc⟩ := wO hk;by_cases hn : n = 0
 ·subst hn
  have hj0 : j = 0 := oM
  subst hj0;have : l = [] := List.eq_nil_of_length_eq_zero (by simpa using hl);subst this;refine ⟨f, [], [], hf, hk, sM, fun i hi => by simp at hi, by simp only [LR], ?_⟩;rcases hv.slice_inv with ⟨_, X, y, _, rfl⟩ | ⟨_, _, X, y, _, rfl⟩ | ⟨_, _, a, c', rfl⟩ <;> simp [Builtin.firstCells, loadCells, loadCellsFrom]
 ·obtain ⟨X, y, c', hm, rfl⟩ := hv.slice_pos hn
  obtain ⟨cs, e, fr, ho, hcs1⟩ := E.sees hm hf;have hcs : ∀ j v, f j = some v -> ∃ v', cs[j]? = some v' /\ VR m v v' := fun j v hj => (hcs1 j v hj).2
  obtain ⟨l', h4, h5, h6⟩ := vE (off := off) hcs (by rw [hl]; exact hc);refine ⟨f, l, l', hf, hk, hl, hc, h5, ?_⟩;have := run_loadCells_list (P := P) w ⟨X, off, none⟩ l' (fun i v hi => by rw [dQ, pS ho]; exact h6 i v hi);rw [h4, hl] at this;simpa [Builtin.firstCells] using this
theorem Ah {P : Program} {K : Kp} {B : Nat} {m : Mp} {s : St} {w : World} (E : cN P K B m s w) {b X y off : Nat} {f : Nat -> Option Value} {l : List Value} (hm : m b = some (X, y)) (hg : tF s b f) (hc : ∀ j, j < l.length -> f (off + j) = l[j]?) :
 ∀ v ∈ l, oneCell v = true := by
 obtain ⟨cs, _, _, _, hon⟩ := E.sees hm hg;intro v hv;obtain ⟨j, hj, rfl⟩ := List.getElem_of_mem hv;exact (hon (off + j) _ (by rw [hc j hj]; exact List.getElem?_eq_getElem hj)).1
theorem Jc {P : Program} {K : Kp} {B : Nat} {m : Mp} {s : St} {w : World} {ts : Array Nat} {t0 e ty : Nat} {i : TypeInfo} {x y u v : Value} {k : Value -> St -> Bool} (h0 : ts[0]? = some t0) (ht : P.underlying t0 = some (.slice e)) (hi : P.info? e = some i)
 (E : cN P K B m s w) (hx : VR m x u) (hy : VR m y v) (hk : Dk s i.size x y k = true) :
 ∃ r s', k r s' = true /\ ∃ w', (Builtin.copy_ ts ty #[u, v]).run P w = .ok r w' /\ cN P K B m s' w' /\ Below B w w' /\ VR m r r := by
 unfold Dk at hk;have z : ∀ (a a' : Option Addr) (n n' c c' : Nat), (n = 0 ∨ n' = 0) -> (Builtin.copy_ ts ty #[.slice a n c, .slice a' n' c']).run P w = .ok (.int .i64 0) w := by
  intro a a' n n' c c' h;have hm : Nat.min n' n = 0 := by rcases h with rfl | rfl <;> simp
  have hf : (Builtin.firstCells i.size 0 (.slice a' n' c')).run P w = .ok #[] w := by cases a' <;> simp [Builtin.firstCells, loadCells, loadCellsFrom]
  cases a <;> simp [Builtin.copy_, h0, Y5 ht, Builtin.lenOf, hm, bE hi, hf, goInt, storeCells]
 rcases eS hk with ⟨n, c, rfl, hk1⟩ | ⟨b, off, n, c, rfl, hk1⟩
 ·obtain ⟨hn, hk2⟩ := Z5 hk1
  have hn' : n = 0 := by simpa using hn
  subst hn';have := hx.slice_none; subst this;rcases eS hk2 with ⟨n2, c2, rfl, hk3⟩ | ⟨b, off, n2, c2, rfl, hk3⟩
  ·have := hy.slice_none; subst this
   exact ⟨_, s, hk3, w, z _ _ _ _ _ _ (.inl rfl), E, Below.refl _ _, by simp only [VR]⟩
  ·obtain ⟨a', n', c', rfl⟩ := hy.slice_some
   exact ⟨_, s, hk3, w, z _ _ _ _ _ _ (.inl rfl), E, Below.refl _ _, by simp only [VR]⟩
 ·rcases eS hk1 with ⟨n2, c2, rfl, hk2⟩ | ⟨b', off', n2, c2, rfl, hk2⟩
  ·obtain ⟨hn, hk3⟩ := Z5 hk2
   have hn' : n2 = 0 := by simpa using hn
   subst hn';have := hy.slice_none; subst this;obtain ⟨a', n', c', rfl⟩ := hx.slice_some;exact ⟨_, s, hk3, w, z _ _ _ _ _ _ (.inr rfl), E, Below.refl _ _, by simp only [VR]⟩
  ·obtain ⟨j, hj, hk3⟩ : ∃ j, j = Nat.min n2 n /\ ifB (Nat.beq j 0) (k (.int .i64 (.ofNat 0)) s) (Ba s b (fun m c e op => Dj (fun h => qO s b' (fun c' => lN c' off' (Nat.mul j i.size) h) (fun g => eL g off' (Nat.mul j i.size) h)) (fun l =>
    ifB (Nat.ble (Nat.add off (Nat.mul j i.size)) m) (dT c off l (fun c => cK s b (.cells m c e op) (k (.int .i64 (.ofNat j))))) false))) = true := by
    rcases lB (show ifB (Nat.ble n2 n) _ _ = true from hk2) with ⟨h5, h6⟩ | ⟨h5, h6⟩
    ·have : n2 <= n := by simpa using h5
     exact ⟨n2, (Nat.min_eq_left this).symm, h6⟩
    ·have : ¬ n2 <= n := by intro h7; rw [<- Nat.ble_eq] at h7; rw [h7] at h5; cases h5
     exact ⟨n, (Nat.min_eq_right oM).symm, h6⟩
   rcases lB hk3 with ⟨hz, hk4⟩ | ⟨hz, hk4⟩
   ·have hz' : j = 0 := by simpa using hz
    have hzero : n = 0 ∨ n2 = 0 := by
     rw [hz'] at hj;rcases Nat.le_total n2 n with h5 | h5
     ·right; have : Nat.min n2 n = n2 := Nat.min_eq_left h5; omega
     ·left; have : Nat.min n2 n = n := Nat.min_eq_right h5; omega
    have sl : ∀ {b off n c : Nat} {u : Value}, VR m (.slice (some ⟨b, off, none⟩) n c) u -> ∃ a c', u = .slice (some a) n c' := by
     intro b off n c u h;rcases h.slice_inv with ⟨_, X, y, _, rfl⟩ | ⟨_, _, X, y, _, rfl⟩ | ⟨_, rfl, a, c', rfl⟩
     ·exact ⟨_, _, rfl⟩
     ·exact ⟨_, _, rfl⟩
     ·exact ⟨_, _, rfl⟩
    obtain ⟨a, ca, rfl⟩ := sl hx;obtain ⟨a', ca', rfl⟩ := sl hy;exact ⟨_, s, hk4, w, z _ _ _ _ _ _ hzero, E, Below.refl _ _, by simp only [VR]⟩
   ·have hz' : j ≠ 0 := by intro h; subst h; simp at hz
    have hjn : j <= n := by rw [hj]; exact Nat.min_le_right _ _
    have hjn2 : j <= n2 := by rw [hj]; exact Nat.min_le_left _ _
    obtain ⟨N, tr, e1, op, hg, hk5⟩ := wM hk4;obtain ⟨X', y', c', hm', _⟩ := hy.slice_pos oM;obtain ⟨f, l, l', hg', hk8, hll, hc, hlr, hrun⟩ := F9 E hy hjn2 hk5;obtain ⟨hle, hk9⟩ := Z5 hk8;have hle' : off + j * i.size <= N := by simpa using hle
    obtain ⟨tr2, hk10, _, htr⟩ := gX hk9;obtain ⟨h', hk11, _, hh⟩ := dD hk10;obtain ⟨X, y, cx, hm, rfl⟩ := hx.slice_pos oM;obtain ⟨w', hr, hE, hB⟩ := yT E (off := off) (l := l) (l' := l') hm hg hlr (Ah E hm' hg' (by rw [hll]; exact hc)) (by rw [hll]; exact hle') htr hh;refine ⟨_, _, hk11, w', ?_, hE, hB, by simp only [VR]⟩;obtain ⟨a', n', ca', rfl⟩ := hy.slice_some;have hlen : (Builtin.lenOf (.slice (some a') n' ca')).run P w = .ok n2 w := by
     rcases hy.slice_inv with ⟨_, X, y, _, e⟩ | ⟨_, _, X, y, _, e⟩ | ⟨_, h, a, c', e⟩
     ·cases e; rfl
     ·cases e; rfl
     ·omega
    simp [Builtin.copy_, h0, Y5 ht, hlen, <- hj, bE hi, hrun, hr, goInt]
end Go.Proofs.YtjkdkpckjgaplaaGreat.Ev
