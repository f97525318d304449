import Derived.Test.YtjkdkpckjgaplaaGreatZh02
import Derived.MapKept
set_option linter.unusedVariables false
set_option linter.unusedSimpArgs false
namespace Go.Proofs.YtjkdkpckjgaplaaGreat.Ev
open Go Go.RowKit
inductive Fg (P : Program) (e : Nat) (i : TypeInfo) (z : Array Value) (ts : Array Nat) (w : World) : Value -> Nat -> List Value -> Prop where
 | ints {t1 : Nat} {k : IntKind} {n : Nat} (h1 : ts[1]? = some t1) (h2 : P.underlying t1 = some (.int k)) (hn : n <= 1048576) : Fg P e i z ts w (.int .i64 (.ofNat n)) n (repeatN z.toList n)
 | row {t1 e1 : Nat} {x : Value} {n : Nat} {new : List Value} (h1 : ts[1]? = some t1) (h2 : P.underlying t1 = some (.slice e1)) (h3 : ∀ W : World, (Builtin.lenOf x).run P W = .ok n W) (h4 : ∀ W : World, W.heap = w.heap -> (Builtin.firstCells i.size n x).run P W = .ok ⟨new⟩ W) : Fg P e i z ts w x n new
theorem jQ {P : Program} {e t0 ty : Nat} {i : TypeInfo} {z : Array Value} {zv : Value} {ts : Array Nat} {w w' : World} {x : Value} {n len cap : Nat} {new : List Value} {a : Addr} (h0 : ts[0]? = some t0) (ht : P.underlying t0 = some (.slice e)) (hi : P.info? e = some i)
 (hz : i.zero = some zv) (hzv : zv.cells = z) (hzs : z.size = i.size) (hb : i.bytes * n <= 1073741824) (hM : Fg P e i z ts w x n new) (hc : len + n <= cap) (hs : (storeCells (a.add (len * i.size)) new).run P w = .ok () w') :
 (Builtin.append_ ts ty #[.slice (some a) len cap, x]).run P w = .ok (.slice (some a) (len + n) cap) w' := by
 cases hM with
 | ints h1 h2 hn =>
  have w1 : IntKind.i64.wrap (Int.ofNat n) = (n : Int) := by
   rw [<- fB];simp only [wrapq];have : fits (Int.ofNat n) = true := by simp only [fits, Nat.blt_eq]; omega
   rw [this]; rfl
  have c1 : ¬ ((n : Int) < 0) := oM
  have c2 : ¬ ((n : Int) * (i.bytes : Int) > 2 ^ 48) := by rw [<- Int.natCast_mul, Nat.mul_comm]; omega
  have hap : (if n * i.size = 0 then pure #[] else do pure (Builtin.zeroCells (<- zeroValue e).cells n) : Sem (Array Value)).run P w = .ok ⟨repeatN z.toList n⟩ w := by
   by_cases hq : n * i.size = 0
   ·rw [if_pos hq]
    have : (repeatN z.toList n).length = 0 := by rw [bV]; show n * z.size = 0; rw [hzs]; exact hq
    rw [List.eq_nil_of_length_eq_zero this]; rfl
   ·rw [if_neg hq, Sem.run_bind, eO hi hz]
    show Result.ok (Builtin.zeroCells zv.cells n) w = _;rw [hzv];exact congrArg (fun q => Result.ok q w) (jY z n)
  unfold Builtin.append_;simp only [h0, h1, List.getElem?_toArray, List.getElem?_cons_zero, List.getElem?_cons_succ, Sem.run_bind, Y5 ht, Y5 h2, bE hi, Result.andThen_ok, Sem.run_pure, if_true, asInt, asIntOf, w1, if_neg c1, eC hi, if_neg c2, Int.toNat_natCast, if_pos hc];rw [if_neg sM, hap];simp only [Result.andThen_ok, hs]
 | row h1 h2 h3 h4 =>
  unfold Builtin.append_;simp only [h0, h1, List.getElem?_toArray, List.getElem?_cons_zero, List.getElem?_cons_succ, Sem.run_bind, Y5 ht, Y5 h2, bE hi, Result.andThen_ok, Sem.run_pure, Bool.false_eq_true, if_false, h3, if_pos hc, Bool.not_false, if_true, h4 w rfl, hs]
theorem yU (n : Nat) : ∀ (r c : Nat), c <= 2 * n + 1000 -> Builtin.growBy n r c <= 2 * n + 1000
 | 0, c, h => h
 | r + 1, c, h => by
  unfold Builtin.growBy;split
  ·exact h
  ·exact yU n r _ oM
theorem Cv {n c : Nat} (h : c < n) : Builtin.nextslicecap n c <= 2 * n + 1000 := by
 unfold Builtin.nextslicecap;split
 ·omega
 ·split
  ·omega
  ·exact yU n 4 c oM
def oG (w : World) (need cap e : Nat) : Nat := (Question.appendCap need cap e).cut (w.tape w.drawn (.appendCap need cap e))
theorem Ga (w : World) (need cap e : Nat) : need <= oG w need cap e := by show need <= need + _; omega
theorem wQ {P : Program} {e t0 ty : Nat} {i : TypeInfo} {z : Array Value} {zv : Value} {ts : Array Nat} {w : World} {x : Value} {n len cap : Nat} {old new : List Value} {a : Option Addr} (h0 : ts[0]? = some t0) (ht : P.underlying t0 = some (.slice e)) (hi : P.info? e = some i)
 (hz : i.zero = some zv) (hzv : zv.cells = z) (hzs : z.size = i.size) (hln : len + n <= 1048576) (hb : i.bytes * (len + n) <= 1073741824) (hM : Fg P e i z ts w x n new) (hc : cap < len + n) (ho : ∀ W : World, W.heap = w.heap -> (Builtin.firstCells i.size len (.slice a len cap)).run P W = .ok ⟨old⟩ W) :
 (Builtin.append_ ts ty #[.slice a len cap, x]).run P w = .ok (.slice (some ⟨w.heap.size, 0, none⟩) (len + n) (oG w (len + n) cap e))
  (w.drew.alloc (.cells ⟨old ++ new ++ repeatN z.toList (oG w (len + n) cap e - (len + n))⟩ e (0, 0))) := by
 have hb1 : i.bytes * n <= 1073741824 := Nat.le_trans (Nat.mul_le_mul_left _ oM) hb;have hbig : ¬ (Builtin.nextslicecap (len + n) cap * i.bytes > 2 ^ 48) := by
  have h1 := Cv hc;have h2 : i.bytes <= 1073741824 := Nat.le_trans (Nat.le_mul_of_pos_right _ oM) hb;have h3 : Builtin.nextslicecap (len + n) cap * i.bytes <= (2 * (len + n) + 1000) * i.bytes := Nat.mul_le_mul_right _ h1;have h4 : (2 * (len + n) + 1000) * i.bytes = 2 * (i.bytes * (len + n)) + 1000 * i.bytes := by rw [Nat.add_mul, Nat.mul_assoc, Nat.mul_comm (len + n)]
  omega
 have hmax : ∀ p : Prop, ¬ (((len + n : Nat) : Int) > IntKind.i64.max /\ p) := by
  rintro p ⟨h, _⟩;have : IntKind.i64.max = 9223372036854775807 := dE
  rw [this] at h;omega
 have hrest : (zeroValue e).run P w.drew = .ok zv w.drew := eO hi hz _;have hch : (choose (.appendCap (len + n) cap e)).run P w = .ok (oG w (len + n) cap e) w.drew := by
  simp [run_choose, Question.forced, oG]
 have hzr : Builtin.zeroCells zv.cells (oG w (len + n) cap e - (len + n)) = ⟨repeatN z.toList (oG w (len + n) cap e - (len + n))⟩ := by rw [hzv]; exact jY z _
 have happ : (⟨old⟩ : Array Value) ++ ⟨new⟩ ++ ⟨repeatN z.toList (oG w (len + n) cap e - (len + n))⟩ = ⟨old ++ new ++ repeatN z.toList (oG w (len + n) cap e - (len + n))⟩ := sM
 cases hM with
 | ints h1 h2 hn =>
  have w1 : IntKind.i64.wrap (Int.ofNat n) = (n : Int) := by
   rw [<- fB];simp only [wrapq];have : fits (Int.ofNat n) = true := by simp only [fits, Nat.blt_eq]; omega
   rw [this]; rfl
  have c1 : ¬ ((n : Int) < 0) := oM
  have c2 : ¬ ((n : Int) * (i.bytes : Int) > 2 ^ 48) := by rw [<- Int.natCast_mul, Nat.mul_comm]; omega
  have hap : ∀ W : World, (if n * i.size = 0 then pure #[] else do pure (Builtin.zeroCells (<- zeroValue e).cells n) : Sem (Array Value)).run P W = .ok ⟨repeatN z.toList n⟩ W := by
   intro W;by_cases hq : n * i.size = 0
   ·rw [if_pos hq]
    have : (repeatN z.toList n).length = 0 := by rw [bV]; show n * z.size = 0; rw [hzs]; exact hq
    rw [List.eq_nil_of_length_eq_zero this]; rfl
   ·rw [if_neg hq, Sem.run_bind, eO hi hz]
    show Result.ok (Builtin.zeroCells zv.cells n) W = _;rw [hzv];exact congrArg (fun q => Result.ok q W) (jY z n)
  unfold Builtin.append_;simp only [h0, h1, List.getElem?_toArray, List.getElem?_cons_zero, List.getElem?_cons_succ, Sem.run_bind, Y5 ht, Y5 h2, bE hi, Result.andThen_ok, Sem.run_pure, if_true, asInt, asIntOf, w1, if_neg c1, eC hi, if_neg c2, Int.toNat_natCast, if_neg (show ¬ len + n <= cap from oM), if_neg (hmax _), if_neg hbig, hch, run_askRoom, ho w.drew rfl];rw [if_neg sM, hap];simp only [Result.andThen_ok, hrest, hzr, newRow, Sem.run_bind, run_newObj, Sem.run_pure, happ];rfl
 | row h1 h2 h3 h4 =>
  unfold Builtin.append_;simp only [h0, h1, List.getElem?_toArray, List.getElem?_cons_zero, List.getElem?_cons_succ, Sem.run_bind, Y5 ht, Y5 h2, bE hi, Result.andThen_ok, Sem.run_pure, Bool.false_eq_true, if_false, h3, if_neg (show ¬ len + n <= cap from oM), eC hi, if_neg (hmax _), if_neg hbig, hch, run_askRoom, ho w.drew rfl, Bool.not_false, if_true, h4 w.drew rfl, hrest, hzr, newRow, run_newObj, happ];rfl
theorem Jd {P : Program} {K : Kp} {B : Nat} {m : Mp} {s : St} {w : World} {e : Nat} {i : TypeInfo} {z : Array Value} {ts : Array Nat} {ints : Bool} {t1 : Nat} {d : TypeDesc} {y v : Value} {k : Nat -> List Value -> Bool} (hz : zeroOf P e = some z) (hzs : z.size = i.size) (h1 : ts[1]? = some t1) (h2 : P.underlying t1 = some d)
 (hd : (ints = true /\ ∃ q, d = .int q) ∨ (ints = false /\ ∃ q, d = .slice q)) (E : cN P K B m s w) (hy : VR m y v) (hk : Dh s i.size z.toList ints y k = true) :
 ∃ n l l', k n l = true /\ Fg P e i z ts w v n l' /\ LR m l l' /\ l.length = n * i.size /\ ∀ u ∈ l, oneCell u = true := by
 obtain ⟨_, zv, _, _, _, hf, hone⟩ := dR hz;rcases hd with ⟨rfl, q, rfl⟩ | ⟨rfl, q, rfl⟩
 ·have hk1 : qF y (fun i _ => ifB (kindEq i .i64) (rK y (fun n => ifB (Nat.ble n 1048576) (k n (repeatN z.toList n)) false)) false) false = true := hk
  obtain ⟨ki, n0, rfl, hk2⟩ := tC hk1;obtain ⟨h3, hk3⟩ := Z5 hk2;have := gZ h3; subst this;obtain ⟨_, n, hn, hk4⟩ := gY hk3;cases hn;obtain ⟨h4, hk5⟩ := Z5 hk4;have h4' : n <= 1048576 := by simpa using h4
  have := hy.int_inv; subst this;exact ⟨n, _, _, hk5, .ints h1 h2 h4', LR.flat _ (fV hf n), by rw [bV]; show n * z.size = _; rw [hzs], hJ hone n⟩
 ·have hk1 : eK y (fun n _ => ifB (Nat.beq n 0) (k 0 []) false) (fun b off n _ => ifB (Nat.beq n 0) (k 0 []) (qO s b (fun c => lN c off (Nat.mul n i.size) (fun l => k n l)) (fun g => eL g off (Nat.mul n i.size) (fun l => k n l)))) = true := hk
  rcases eS hk1 with ⟨n, c, rfl, hk2⟩ | ⟨b, off, n, c, rfl, hk2⟩
  ·obtain ⟨h3, hk3⟩ := Z5 hk2
   have h3' : n = 0 := by simpa using h3
   subst h3';have := hy.slice_none; subst this;exact ⟨0, [], [], hk3, .row h1 h2 (fun W => rfl) (fun W _ => rfl), by simp only [LR], sM, sM⟩
  ·rcases lB hk2 with ⟨h0, hk4⟩ | ⟨h0, hk2⟩
   ·have h0' : n = 0 := by simpa using h0
    subst h0';obtain ⟨a', n', c', rfl⟩ := hy.slice_some;have hn' : n' = 0 := by
     rcases hy.slice_inv with ⟨_, X, y, _, e⟩ | ⟨_, _, X, y, _, e⟩ | ⟨_, h, a, c', e⟩ <;> cases e <;> rfl
    subst hn';exact ⟨0, [], [], hk4, .row h1 h2 (fun W => rfl) (fun W _ => by simp [Builtin.firstCells, loadCells, loadCellsFrom]), by simp only [LR], sM, sM⟩
   ·have h0' : n ≠ 0 := by intro h; subst h; simp at h0
    obtain ⟨f, l, hg, hk4, hl, hc⟩ := wO hk2;obtain ⟨X, yy, c', hm, rfl⟩ := hy.slice_pos h0';obtain ⟨cs, e, fr, ho, hcs1⟩ := E.sees hm hg;have hcs : ∀ j v, f j = some v -> ∃ v', cs[j]? = some v' /\ VR m v v' := fun j v hj => (hcs1 j v hj).2
    have hl' : l.length = n * i.size := hl;obtain ⟨l', h4, h5, h6⟩ := vE (off := off) hcs (by rw [hl]; exact hc);refine ⟨n, l, l', hk4, .row h1 h2 (fun W => rfl) (fun W hW => ?_), h5, hl', Ah E hm hg (by rw [hl]; exact hc)⟩;have := run_loadCells_list (P := P) W ⟨X, off, none⟩ l' (fun j v hi => by rw [dQ, pS (by rw [hW]; exact ho)]; exact h6 j v hi);rw [h4, hl'] at this;simpa [Builtin.firstCells] using this
theorem cN.drew {P : Program} {K : Kp} {B : Nat} {m : Mp} {s : St} {w : World} (E : cN P K B m s w) : cN P K B m s w.drew := ⟨E.low, E.old, E.obj, E.inj, E.base, E.kept⟩
theorem Cw {B : Nat} {w : World} : Below B w w.drew := (Below.refl B w).drew
theorem wR {P : Program} {e t0 ty : Nat} {i : TypeInfo} {z : Array Value} {zv : Value} {ts : Array Nat} {w : World} {x : Value} {new : List Value} (h0 : ts[0]? = some t0) (ht : P.underlying t0 = some (.slice e)) (hi : P.info? e = some i)
 (hz : i.zero = some zv) (hM : Fg P e i z ts w x 0 new) : (Builtin.append_ ts ty #[.slice none 0 0, x]).run P w = .ok (.slice none 0 0) w := by
 cases hM with
 | ints h1 h2 hn =>
  unfold Builtin.append_;simp only [h0, h1, List.getElem?_toArray, List.getElem?_cons_zero, List.getElem?_cons_succ, Sem.run_bind, Y5 ht, Y5 h2, bE hi, Result.andThen_ok, Sem.run_pure, if_true, asInt, asIntOf];have w1 : IntKind.i64.wrap (Int.ofNat 0) = 0 := dE
  simp only [w1];simp [eC hi]
 | row h1 h2 h3 h4 =>
  unfold Builtin.append_;simp only [h0, h1, List.getElem?_toArray, List.getElem?_cons_zero, List.getElem?_cons_succ, Sem.run_bind, Y5 ht, Y5 h2, bE hi, Result.andThen_ok, Sem.run_pure, Bool.false_eq_true, if_false, h3, Bool.not_false, if_true];simp [h4 w rfl]
theorem cN.move {P : Program} {K : Kp} {B : Nat} {m : Mp} {s : St} {w w' : World} (E : cN P K B m s w) {h2 : BT dK} {b X y : Nat} {o c : dK} {o' : Obj} (hb : m b = some (X, y)) (hc : s.h.get b = some c) (hd : c ≠ .dead /\ ∀ g, c ≠ .rom g)
 (hg : ∀ j, h2.get j = if j = s.n then some o else if j = b then some .dead else s.h.get j) (hs : w'.heap.size = w.heap.size) (hx : w'.heap[X]? = some o') (hw : ∀ k, k ≠ X -> w'.heap[k]? = w.heap[k]?) (hr : OR P (m.put s.n X y) s.n o o') :
 cN P K B (m.put s.n X y) ⟨h2, s.n + 1⟩ w' := by
 have hn := E.none;have hBb := E.own hb hc hd.2;have hbn : b ≠ s.n := by intro h; subst h; rw [hn] at hb; cases hb
 refine ⟨fun i x u hi => ?_, fun i p hi => ?_, fun i x u d hi hd' => ?_, fun i j x u u' hi hj hij hBx => ?_, by rw [hs]; exact E.base, fun i o2 hi => ?_⟩
 ·rw [hs]
  by_cases he : i = s.n
  ·subst he; rw [Mp.put_same] at hi; cases hi; exact ⟨.inl hBb, (E.low b X y hb).2⟩
  ·rw [Mp.put_ne he] at hi
   refine ⟨?_, (E.low i x u hi).2⟩;by_cases hib : i = b
   ·subst hib; rw [hb] at hi; cases hi; exact .inl hBb
   ·refine (E.low i x u hi).1.imp id (fun ⟨g, h⟩ => ⟨g, ?_⟩)
    show h2.get i = _;rw [hg, if_neg he, if_neg hib]; exact h
 ·by_cases he : i = s.n
  ·subst he; exact Nat.lt_succ_self _
  ·rw [Mp.put_ne he] at hi; exact Nat.lt_succ_of_lt (E.old i p hi)
 ·have hd2 : h2.get i = some d := hd'
  rw [hg] at hd2;by_cases he : i = s.n
  ·subst he
   rw [if_pos rfl] at hd2;cases hd2;rw [Mp.put_same] at hi; cases hi;exact ⟨o', hx, hr⟩
  ·rw [if_neg he] at hd2
   rw [Mp.put_ne he] at hi;by_cases hib : i = b
   ·subst hib
    rw [if_pos rfl] at hd2;cases hd2;rw [hb] at hi; cases hi;exact ⟨o', hx, trivial⟩
   ·rw [if_neg hib] at hd2
    obtain ⟨o2, h5, h6⟩ := E.obj i x u d hi hd2;by_cases hxx : x = X
    ·subst hxx
     rcases E.inj i b x u y hi hb hib hBb with h7 | h7
     ·rw [hd2] at h7; cases h7; exact ⟨o', hx, trivial⟩
     ·rw [hc] at h7; cases h7; exact absurd rfl hd.1
    ·exact ⟨o2, by rw [hw x hxx]; exact h5, h6.mono (Mp.put_le hn)⟩
 ·show h2.get i = some .dead ∨ h2.get j = some .dead
  have old : ∀ i j x u u', i ≠ s.n -> j ≠ s.n -> m i = some (x, u) -> m j = some (x, u') -> i ≠ j -> B <= x -> h2.get i = some .dead ∨ h2.get j = some .dead := by
   intro i j x u u' h5 h6 hi hj hij hBx;rw [hg, hg, if_neg h5, if_neg h6];rcases E.inj i j x u u' hi hj hij hBx with h7 | h7
   ·left; by_cases h8 : i = b
    ·rw [if_pos h8]
    ·rw [if_neg h8]; exact h7
   ·right; by_cases h8 : j = b
    ·rw [if_pos h8]
    ·rw [if_neg h8]; exact h7
  have atb : ∀ j u', j ≠ s.n -> m j = some (X, u') -> h2.get j = some .dead := by
   intro j u' h6 hj;rw [hg, if_neg h6];by_cases h8 : j = b
   ·rw [if_pos h8]
   ·rw [if_neg h8]
    rcases E.inj j b X u' y hj hb h8 hBb with h7 | h7
    ·exact h7
    ·rw [hc] at h7; cases h7; exact absurd rfl hd.1
  by_cases h5 : i = s.n
  ·subst h5
   rw [Mp.put_same] at hi; cases hi;have h6 : j ≠ s.n := Ne.symm hij;rw [Mp.put_ne h6] at hj;exact .inr (atb j u' h6 hj)
  ·rw [Mp.put_ne h5] at hi
   by_cases h6 : j = s.n
   ·subst h6
    rw [Mp.put_same] at hj; cases hj;exact .inl (atb i u h5 hi)
   ·rw [Mp.put_ne h6] at hj
    exact old i j x u u' h5 h6 hi hj hij hBx
 ·obtain ⟨h1, h3, h4⟩ := E.kept i o2 hi
  have he : i ≠ s.n := oM
  have hb' : i ≠ b := by rintro rfl; rw [hb] at h1; cases h1
  exact ⟨by rw [Mp.put_ne he]; exact h1, by show h2.get i = _; rw [hg, if_neg he, if_neg hb']; exact h3, Nat.lt_succ_of_lt h4⟩
theorem cN.die {P : Program} {K : Kp} {B : Nat} {m : Mp} {s : St} {w : World} (E : cN P K B m s w) {h1 : BT dK} {b x0 y0 : Nat} {c : dK} (hb : m b = some (x0, y0)) (hc : s.h.get b = some c) (hd : ∀ g, c ≠ .rom g) (hg : ∀ j, h1.get j = if j = b then some .dead else s.h.get j) : cN P K B m ⟨h1, s.n⟩ w := by
 refine ⟨fun i x u hi => ⟨?_, (E.low i x u hi).2⟩, E.old, fun i x u d hi hd' => ?_, fun i j x u u' hi hj hij hBx => ?_, E.base, fun i o2 hi => ?_⟩
 ·by_cases he : i = b
  ·subst he; rw [hb] at hi; cases hi; exact .inl (E.own hb hc hd)
  ·refine (E.low i x u hi).1.imp id (fun ⟨g, h⟩ => ⟨g, ?_⟩)
   show h1.get i = _;rw [hg, if_neg he]; exact h
 ·have hd2 : h1.get i = some d := hd'
  rw [hg] at hd2;by_cases he : i = b
  ·subst he
   rw [if_pos rfl] at hd2;cases hd2;have := (E.low i x u hi).2;exact ⟨w.heap[x], Array.getElem?_eq_getElem this, trivial⟩
  ·rw [if_neg he] at hd2
   exact E.obj i x u d hi hd2
 ·show h1.get i = some .dead ∨ h1.get j = some .dead
  rw [hg, hg];rcases E.inj i j x u u' hi hj hij hBx with h7 | h7
  ·left; by_cases h8 : i = b
   ·rw [if_pos h8]
   ·rw [if_neg h8]; exact h7
  ·right; by_cases h8 : j = b
   ·rw [if_pos h8]
   ·rw [if_neg h8]; exact h7
 ·obtain ⟨h3, h4, h5⟩ := E.kept i o2 hi
  have he : i ≠ b := by rintro rfl; rw [hb] at h3; cases h3
  exact ⟨h3, by show h1.get i = _; rw [hg, if_neg he]; exact h4, h5⟩
end Go.Proofs.YtjkdkpckjgaplaaGreat.Ev
namespace Go.Proofs.YtjkdkpckjgaplaaGreat.Ev
open Go Go.RowKit
theorem Gb {l : List Value} {t : BT Value} {n : Nat} {k : BT Value -> Bool} (h : eB t n l k = true) : ∃ c, k c = true /\ ∀ j v, c.get j = some v -> (n <= j /\ j < n + l.length /\ l[j - n]? = some v) ∨ t.get j = some v := by
 obtain ⟨c, hk, _, hc⟩ := tA h;refine ⟨c, hk, fun j v hj => ?_⟩;rw [hc] at hj;by_cases h0 : n <= j /\ j < n + l.length
 ·rw [if_pos h0] at hj; exact .inl ⟨h0.1, h0.2, hj⟩
 ·rw [if_neg h0] at hj; exact .inr hj
theorem yV {P : Program} {m : Mp} {j X y N e : Nat} {c : BT Value} {old new r : List Value} (hc : ∀ i v, c.get i = some v -> oneCell v = true /\ ∃ v', (old ++ new)[i]? = some v' /\ VR m v v') (hN : N = (old ++ new).length) (hm : m j = some (X, y))
 (hy : y * P.cellsOf e = (old ++ new).length + r.length) : OR P m j (.cells N c e true) (.cells ⟨old ++ new ++ r⟩ e (0, 0)) := by
 refine ⟨_, rfl, by show N <= (old ++ new ++ r).length; rw [List.length_append]; omega, fun i v hi => ?_, fun _ => ⟨X, y, hm, by rw [hy]; simp; omega⟩, fun i v hi => ⟨(hc i v hi).1, by obtain ⟨_, v', h1, _⟩ := hc i v hi; rw [hN]; exact (List.getElem?_eq_some_iff.1 h1).1⟩⟩;obtain ⟨_, v', h1, h2⟩ := hc i v hi;refine ⟨v', ?_, h2⟩;have hlt : i < (old ++ new).length := (List.getElem?_eq_some_iff.1 h1).1;rw [List.getElem?_toArray, List.getElem?_append_left hlt]; exact h1
theorem Gc {b y : Bool} (h : ifB b false y = true) : b = false /\ y = true := by cases b <;> simp_all [ifB]
theorem Je {s : St} {b : Nat} {o : dK} {F : Nat -> BT Value -> Nat -> Bool -> Bool} {R : (Nat -> Option Value) -> Bool} (h0 : s.h.get b = some o) (h : @dK.casesOn (fun _ => Bool) o false F (fun _ _ _ _ _ _ _ => false) (fun _ => false) (fun _ => false) R = true) :
 (∃ n c e op, s.h.get b = some (.cells n c e op) /\ F n c e op = true) ∨ ∃ g, s.h.get b = some (.rom g) /\ R g = true := by
 cases o with
 | cells n c e op => exact .inl ⟨n, c, e, op, h0, h⟩
 | rom g => exact .inr ⟨g, h0, h⟩
 | _ => cases h
theorem Nd {P : Program} {K : Kp} {B : Nat} {m : Mp} {s : St} {w : World} {e t0 t1 ty : Nat} {i : TypeInfo} {z : Array Value} {ts : Array Nat} {ints : Bool} {d : TypeDesc} {x y u v : Value} {k : Value -> St -> Bool} (h0 : ts[0]? = some t0) (ht : P.underlying t0 = some (.slice e)) (h1 : ts[1]? = some t1) (h2 : P.underlying t1 = some d)
 (hd : (ints = true /\ ∃ q, d = .int q) ∨ (ints = false /\ ∃ q, d = .slice q)) (hi : P.info? e = some i) (hz : zeroOf P e = some z) (hzs : z.size = i.size) (hs0 : i.size ≠ 0) (E : cN P K B m s w) (hx : VR m x u) (hy : VR m y v)
 (hk : jC s e i.size i.bytes z.toList ints x y k = true) :
 ∃ r s', k r s' = true /\ ∃ m' w' r', (Builtin.append_ ts ty #[u, v]).run P w = .ok r' w' /\ m.le m' /\ cN P K B m' s' w' /\ Below B w w' /\ VR m' r r' := by
 obtain ⟨i', zv, hi2, hzv, hvz, hf, hone⟩ := dR hz;rw [hi] at hi2; cases hi2;have hcell : P.cellsOf e = i.size := by simp [Program.cellsOf, hi]
 have hrl : ∀ c, (repeatN z.toList c).length = c * i.size := fun c => by rw [bV]; show c * z.size = _; rw [hzs]
 unfold jC at hk;obtain ⟨n, more, new, hk1, hM, hmr, hml, hmo⟩ := Jd (w := w) hz hzs h1 h2 hd E hy hk;clear hk;have hnl : new.length = n * i.size := by rw [LR.length hmr, hml]
 -- a new row
 have grown : ∀ (s1 : St) (E1 : cN P K B m s1 w) (old : List Value) (len cap : Nat) (a : Option Addr) (tr c : BT Value) (k1 : St -> Bool), old.length = len * i.size -> len + n <= 1048576 -> i.bytes * (len + n) <= 1073741824 -> cap < len + n ->
  (∀ W : World, W.heap = w.heap -> (Builtin.firstCells i.size len (.slice a len cap)).run P W = .ok ⟨old⟩ W) ->
  (∀ j q, tr.get j = some q -> j < len * i.size -> oneCell q = true /\ ∃ q', old[j]? = some q' /\ VR m q q') ->
  (∀ j q, c.get j = some q -> (len * i.size <= j /\ j < len * i.size + more.length /\ more[j - len * i.size]? = some q) ∨ (tr.get j = some q /\ j < len * i.size)) ->
  iH s1 (.cells ((len + n) * i.size) c e true) k1 = true ->
  ∃ s', k1 s' = true /\ ∃ m' w', (Builtin.append_ ts ty #[.slice a len cap, v]).run P w = .ok (.slice (some ⟨w.heap.size, 0, none⟩) (len + n) (oG w (len + n) cap e)) w' /\ m.le m' /\ cN P K B m' s' w' /\ Below B w w' /\ m' s1.n = some (w.heap.size, oG w (len + n) cap e) := by
  intro s1 E1 old len cap a tr c k1 ho hl hb hc hf1 htr hcr hk2;have hrun := wQ (ty := ty) h0 ht hi hzv hvz hzs hl hb hM hc hf1;have hge := Ga w (len + n) cap e;obtain ⟨cp, hcp⟩ : ∃ cp, oG w (len + n) cap e = cp := ⟨_, rfl⟩;rw [hcp] at hrun hge ⊢;have hr : OR P (m.put s1.n w.drew.heap.size cp) s1.n (.cells ((len + n) * i.size) c e true) (.cells ⟨old ++ new ++ repeatN z.toList (cp - (len + n))⟩ e (0, 0)) := by
   refine yV (X := w.drew.heap.size) (y := cp) (fun j q hj => ?_) ?_ (Mp.put_same _ _ _ _) ?_
   ·rcases hcr j q hj with ⟨h5, h6, h7⟩ | ⟨h5, h6⟩
    ·obtain ⟨q', h8, h9⟩ := LR.get hmr h7
     refine ⟨hmo q (List.mem_of_getElem? h7), q', ?_, h9.mono (Mp.put_le E1.none)⟩;rw [List.getElem?_append_right oM, ho]; exact h8
    ·obtain ⟨h7, q', h8, h9⟩ := htr j q h5 h6
     refine ⟨h7, q', ?_, h9.mono (Mp.put_le E1.none)⟩;rw [List.getElem?_append_left oM]; exact h8
   ·rw [List.length_append, ho, hnl, <- Nat.add_mul]
   ·rw [hcell, hrl, List.length_append, ho, hnl, <- Nat.add_mul, <- Nat.add_mul]; congr 1; omega
  obtain ⟨s', hk3, hE, hB, hle, _⟩ := oX E1.drew cp hr hk2;exact ⟨s', hk3, _, _, hrun, hle, hE, Cw.trans hB, Mp.put_same _ _ _ _⟩
 rcases eS hk1 with ⟨len, cap, rfl, hk2⟩ | ⟨b, off, len, cap, rfl, hk2⟩
 ·obtain ⟨hl, hk3⟩ := Z5 hk2
  obtain ⟨hc, hk4⟩ := Z5 hk3;have hl' : len = 0 := by simpa using hl
  have hc' : cap = 0 := by simpa using hc
  subst hl'; subst hc';have := hx.slice_none; subst this;rcases lB hk4 with ⟨hn, hk5⟩ | ⟨hn, hk5⟩
  ·have hn' : n = 0 := by simpa using hn
   subst hn';exact ⟨_, s, hk5, m, w, _, wR h0 ht hi hzv hM, Mp.le_refl m, E, Below.refl _ _, by simp only [VR]; exact ⟨dE, trivial⟩⟩
  ·have hn' : n ≠ 0 := by intro h; subst h; simp at hn
   obtain ⟨hq1, hk6⟩ := Z5 hk5;obtain ⟨hq2, hk7⟩ := Z5 hk6;have hq1' : n <= 1048576 := by simpa using hq1
   have hq2' : i.bytes * n <= 1073741824 := by simpa using hq2
   obtain ⟨c, hk8, hc⟩ := iP hk7;have hk9 := eU hk8;rw [bB] at hk9;obtain ⟨s', hk10, m', w', hrun, hle, hE, hB, hm'⟩ := grown s E [] 0 0 none .leaf c (fun s' => k (.slice (some ⟨s.n, 0, none⟩) n OPEN) s') sM oM (by rw [Nat.zero_add]; exact hq2') oM (fun W _ => by simp [Builtin.firstCells])
    (fun j q hj _ => by simp [BT.get] at hj) (fun j q hj => .inl (by have := hc j q hj; have h5 := (List.getElem?_eq_some_iff.1 this).1; simpa using ⟨h5, this⟩)) (by rw [Nat.zero_add]; exact hk9)
   rw [Nat.zero_add] at hrun hm';refine ⟨_, s', hk10, m', w', _, hrun, hle, hE, hB, ?_⟩;simp only [VR];refine ⟨trivial, ?_⟩;rw [if_neg oM, if_pos (.inl trivial)];exact ⟨_, _, hm', sM⟩
 ·rcases lB hk2 with ⟨hz0, hk2⟩ | ⟨_, hk2⟩
  ·obtain ⟨hl, hk3⟩ := Z5 hk2
   have hl' : len = 0 := by simpa using hl
   have hc' : cap = 0 := by simpa using hz0
   subst hl'; subst hc';obtain ⟨X, Y, hm, rfl⟩ : ∃ X Y, m b = some (X, Y) /\ u = .slice (some ⟨X, off, none⟩) 0 0 := by
    rcases hx.slice_inv with ⟨_, X, Y, h5, h6⟩ | ⟨h5, _⟩ | ⟨h5, _⟩
    ·exact ⟨X, Y, h5, h6⟩
    ·cases h5
    ·exact absurd h5 dE
   rcases lB hk3 with ⟨hn, hk5⟩ | ⟨hn, hk5⟩
   ·have hn' : n = 0 := by simpa using hn
    subst hn';have hnew : new = [] := List.eq_nil_of_length_eq_zero (by rw [hnl, Nat.zero_mul]);refine ⟨_, s, hk5, m, w, _, jQ h0 ht hi hzv hvz hzs oM hM (Nat.le_refl 0) (by rw [hnew]; rfl), Mp.le_refl m, E, Below.refl _ _, ?_⟩;simp only [VR];exact ⟨trivial, by rw [if_pos dE]; exact ⟨X, Y, hm, rfl⟩⟩
   ·have hn' : n ≠ 0 := by intro h; subst h; simp at hn
    obtain ⟨hq1, hk6⟩ := Z5 hk5;obtain ⟨hq2, hk7⟩ := Z5 hk6;have hq1' : n <= 1048576 := by simpa using hq1
    have hq2' : i.bytes * n <= 1073741824 := by simpa using hq2
    obtain ⟨c, hk8, hc⟩ := iP hk7;have hk9 := eU hk8;rw [bB] at hk9;obtain ⟨s', hk10, m', w', hrun, hle, hE, hB, hm'⟩ := grown s E [] 0 0 (some ⟨X, off, none⟩) .leaf c (fun s' => k (.slice (some ⟨s.n, 0, none⟩) n OPEN) s') sM oM (by rw [Nat.zero_add]; exact hq2') oM (fun W _ => by
     have := run_loadCells_list (P := P) W ⟨X, off, none⟩ [] (fun j q hj => by simp at hj);simpa [Builtin.firstCells] using this)
     (fun j q hj _ => by simp [BT.get] at hj) (fun j q hj => .inl (by have := hc j q hj; have h5 := (List.getElem?_eq_some_iff.1 this).1; simpa using ⟨h5, this⟩)) (by rw [Nat.zero_add]; exact hk9)
    rw [Nat.zero_add] at hrun hm';refine ⟨_, s', hk10, m', w', _, hrun, hle, hE, hB, ?_⟩;simp only [VR];refine ⟨trivial, ?_⟩;rw [if_neg oM, if_pos (.inl trivial)];exact ⟨_, _, hm', sM⟩
  obtain ⟨hq1, hk3⟩ := Z5 hk2;obtain ⟨hq2, hk4⟩ := Z5 hk3;have hq1' : len + n <= 1048576 := by simpa using hq1
  have hq2' : i.bytes * (len + n) <= 1073741824 := by simpa using hq2
  have hbn : i.bytes * n <= 1073741824 := Nat.le_trans (Nat.mul_le_mul_left _ oM) hq2';unfold eG at hk4
  -- a new row is made
  have grows : ∀ {f : Nat -> Option Value} {oldc : List Value}, tF s b f -> uH s e i.size len n more oldc k = true -> oldc.length = len * i.size -> (∀ j, j < len * i.size -> f (off + j) = oldc[j]?) -> cap < OPEN -> ¬ len + n <= cap -> ∃ r s', k r s' = true /\ ∃ m' w' r', (Builtin.append_ ts ty #[u, v]).run P w = .ok r' w' /\ m.le m' /\ cN P K B m' s' w' /\ Below B w w' /\ VR m' r r' := fun {f oldc} hg hk9 hol hoc hop' hle' => by
   unfold uH at hk9;obtain ⟨X, Y, hm, rfl⟩ : ∃ X Y, m b = some (X, Y) /\ u = .slice (some ⟨X, off, none⟩) len cap := by
    rcases hx.slice_inv with ⟨_, X, Y, h5, h6⟩ | ⟨h5, _⟩ | ⟨h5, _⟩
    ·exact ⟨X, Y, h5, h6⟩
    ·omega
    ·omega
   obtain ⟨cs, e0, fr, hox, hcs1⟩ := E.sees hm hg;have hcs : ∀ j v, f j = some v -> ∃ v', cs[j]? = some v' /\ VR m v v' := fun j v hj => (hcs1 j v hj).2
   obtain ⟨c1, hk10, hc1⟩ := iP hk9;obtain ⟨c2, hk11, hc2⟩ := Gb hk10;have hk12 := eU hk11;rw [bB] at hk12;have hol' : oldc.length = len * i.size := hol;obtain ⟨old', h4, h5, h6⟩ := vE (off := off) hcs (by rw [hol]; exact hoc);have hone' := Ah E hm hg (by rw [hol]; exact hoc);obtain ⟨s', hk13, m', w', hrun, hle2, hE, hB, hm'⟩ := grown s E old' len cap (some ⟨X, off, none⟩) c1 c2 (fun s' => cI (Nat.add len n) (fun l => k (.slice (some ⟨s.n, 0, none⟩) l OPEN) s')) (by rw [h4, hol']) hq1' hq2' oM
    (fun W hW => by
     have := run_loadCells_list (P := P) W ⟨X, off, none⟩ old' (fun j q hj => by rw [dQ, pS (by rw [hW]; exact hox)]; exact h6 j q hj);rw [h4, hol'] at this;simpa [Builtin.firstCells] using this)
    (fun j q hj _ => by
     have h7 := hc1 j q hj;obtain ⟨q', h8, h9⟩ := LR.get h5 h7;exact ⟨hone' q (List.mem_of_getElem? h7), q', h8, h9⟩)
    (fun j q hj => by
     rcases hc2 j q hj with h7 | h7
     ·exact .inl h7
     ·exact .inr ⟨h7, by rw [<- hol']; exact (List.getElem?_eq_some_iff.1 (hc1 j q h7)).1⟩) hk12
   rw [bB] at hk13;refine ⟨_, s', hk13, m', w', _, hrun, hle2, hE, hB, ?_⟩;simp only [VR];refine ⟨trivial, ?_⟩;rw [if_neg oM, if_pos (.inl trivial)];exact ⟨_, _, hm', sM⟩
  obtain ⟨ob, hg0, hk5⟩ := mD hk4;rcases Je hg0 hk5 with ⟨N, tr, e', op, hg, hk5⟩ | ⟨g, hg, hk5⟩
  rotate_left
  ·obtain ⟨h7, hk6⟩ := Gc hk5
   obtain ⟨h8, hk7⟩ := Gc hk6;obtain ⟨oldc, hk8, hol, hoc⟩ := lQ hk7;refine grows (.inr hg) hk8 hol hoc ?_ ?_
   ·rcases Nat.lt_or_ge cap OPEN with h | h
    ·exact h
    ·rw [show Nat.ble OPEN cap = true from by rw [Nat.ble_eq]; exact h] at h7; cases h7
   ·intro h; rw [<- Nat.ble_eq] at h; rw [show Nat.ble (Nat.add len n) cap = true from h] at h8; cases h8
  obtain ⟨hee, hk6⟩ := Z5 hk5;have hee' : e = e' := by simpa using hee
  subst hee';rcases lB hk6 with ⟨hop, hk7⟩ | ⟨hop, hk7⟩
  ·-- what the row bears is not known
   obtain ⟨ho1, hk8⟩ := Z5 hk7;obtain ⟨ho2, hk9⟩ := Z5 hk8;obtain ⟨ho3, hk10⟩ := Z5 hk9;clear hk1 hk2 hk3 hk4 hk5 hk6 hk7 hk8 hk9;have ho2' : off = 0 := by simpa using ho2
   have ho3' : cap = OPEN := by simpa using ho3
   subst ho2'; subst ho3'; subst ho1;obtain ⟨X, Y, hm, rfl⟩ : ∃ X Y, m b = some (X, Y) /\ u = .slice (some ⟨X, 0, none⟩) len Y := by
    rcases hx.slice_inv with ⟨h5, _⟩ | ⟨_, _, X, Y, h5, h6⟩ | ⟨h5, _⟩
    ·exact absurd h5 (Nat.lt_irrefl _)
    ·exact ⟨X, Y, h5, by simpa using h6⟩
    ·exact absurd h5 (Nat.lt_irrefl _)
   obtain ⟨o', hox, cs, rfl, hNs, hcs, hopn, hon⟩ := E.obj b X Y _ hm hg;obtain ⟨X2, Y2, hm2, hY⟩ := hopn rfl;rw [hm] at hm2; cases hm2;rw [hcell] at hY;have fit : ∀ q, q * i.size <= Y * i.size -> q <= Y := fun q hq => Nat.le_of_mul_le_mul_right hq oM
   have hVR : ∀ (m' : Mp) (g X' Y' : Nat), m' g = some (X', Y') -> VR m' (.slice (some ⟨g, 0, none⟩) (len + n) OPEN) (.slice (some ⟨X', 0, none⟩) (len + n) Y') := by
    intro m' g X' Y' h;simp only [VR];refine ⟨trivial, ?_⟩;rw [if_neg oM, if_pos (.inl trivial)];exact ⟨_, _, h, sM⟩
   rcases lB hk10 with ⟨hle, hk11⟩ | ⟨hle, hk11⟩
   ·-- room that is known
    have hle' : (len + n) * i.size <= N := by simpa using hle
    obtain ⟨tr', hk12, _, htr⟩ := gX hk11;obtain ⟨h', hk13, _, hh⟩ := dD hk12;rw [bB] at hk13;have hfit : len + n <= Y := fit _ oM;obtain ⟨w', hr, hE, hB⟩ := yT E (off := len * i.size) (l := more) (l' := new) hm hg hmr hmo (by rw [hml, <- Nat.add_mul]; exact hle') htr hh;refine ⟨_, _, hk13, m, w', _, jQ h0 ht hi hzv hvz hzs hbn hM hfit (by rw [dQ, Nat.zero_add]; exact hr), Mp.le_refl m, hE, hB, ?_⟩;exact hVR m b X Y hm
   ·-- it goes on behind what is known
    obtain ⟨heq, hk12⟩ := Z5 hk11;have heq' : len * i.size = N := by simpa using heq
    obtain ⟨tr', hk13, htr⟩ := Gb hk12;have hk14 := eU hk13;obtain ⟨h1', hk15, _, hh1⟩ := dD hk14;rw [bB] at hk15;obtain ⟨h2', hk16, _, hh2⟩ := mF hk15;rw [bB] at hk16;have hlenN : (len + n) * i.size = N + more.length := by rw [Nat.add_mul, heq', hml]
    by_cases hfit : len + n <= Y
    ·have hroom : N + new.length <= cs.size := by
      rw [hnl, <- heq', <- Nat.add_mul, <- hY]; exact Nat.mul_le_mul_right _ hfit
     have hst := run_storeCells_at (P := P) X N e new 0 cs w hox oM (hmr.ones hmo);simp only [Nat.add_zero] at hst;have hsz : (cs.toList.take N ++ new ++ cs.toList.drop (N + new.length)).length = cs.size := by simp; omega
     have hr : OR P (m.put s.n X Y) s.n (.cells ((len + n) * i.size) tr' e true) (.cells (cs.toList.take N ++ new ++ cs.toList.drop (N + new.length)).toArray e (0, 0)) := by
      refine yV (old := cs.toList.take N) (new := new) (r := cs.toList.drop (N + new.length)) (X := X) (y := Y) (fun j q hj => ?_) (by rw [List.length_append, hnl, hlenN, hml]; simp; omega) (Mp.put_same _ _ _ _) ?_
      ·rcases htr j q hj with ⟨h5, h6, h7⟩ | h5
       ·obtain ⟨q', h8, h9⟩ := LR.get hmr h7
        refine ⟨hmo q (List.mem_of_getElem? h7), q', ?_, h9.mono (Mp.put_le E.none)⟩;have hlt : (cs.toList.take N).length = N := by simp; omega
        have h5' : N <= j := by rw [<- heq']; exact h5
        rw [List.getElem?_append_right oM, hlt, <- heq']; exact h8
       ·obtain ⟨q', h8, h9⟩ := hcs j q h5
        by_cases hjN : j < N
        ·refine ⟨(hon j q h5).1, q', ?_, h9.mono (Mp.put_le E.none)⟩
         have hlt : (cs.toList.take N).length = N := by simp; omega
         rw [List.getElem?_append_left oM, List.getElem?_take, if_pos hjN];simpa using h8
        ·exact absurd (hon j q h5).2 hjN
      ·rw [hcell, hY, <- List.length_append]; exact hsz.symm
     refine ⟨_, _, hk16, m.put s.n X Y, _, _, jQ h0 ht hi hzv hvz hzs hbn hM hfit (by rw [dQ, Nat.zero_add, heq']; exact hst), Mp.put_le E.none, ?_, ?_, hVR _ _ X Y (Mp.put_same _ _ _ _)⟩
     ·refine E.move hm hg sM (fun j => ?_) sM (setRow_heap w X cs _ e _ hox) (fun q hq => setRow_other w X q _ hq) hr
      rw [hh2];by_cases hj : j = s.n
      ·rw [if_pos hj, if_pos hj]; rfl
      ·rw [if_neg hj, if_neg hj]; exact hh1 j
     ·have := E.own hm hg sM
      exact oW sM sM sM sM (fun q hq => setRow_other w X q _ oM)
    ·have hlt : (cs.toList.take N).length = N := by simp; omega
     obtain ⟨s', hk17, m', w', hrun, hle2, hE, hB, hm'⟩ := grown ⟨h1', s.n⟩ (E.die hm hg sM hh1) (cs.toList.take N) len Y (some ⟨X, 0, none⟩) tr tr' (fun s' => cI (Nat.add len n) (fun l => k (.slice (some ⟨s.n, 0, none⟩) l OPEN) s')) (by rw [hlt, heq']) hq1' hq2' oM
      (fun W hW => by
       have := run_loadCells_list (P := P) W ⟨X, 0, none⟩ (cs.toList.take N) (fun j q hj => by
        rw [dQ, Nat.zero_add, pS (by rw [hW]; exact hox)];rw [List.getElem?_take] at hj;split at hj
        ·simpa using hj
        ·cases hj)
       rw [hlt, <- heq'] at this;rw [<- heq'];simpa [Builtin.firstCells] using this)
      (fun j q hj hjl => by
       obtain ⟨q', h8, h9⟩ := hcs j q hj;refine ⟨(hon j q hj).1, q', ?_, h9⟩;rw [List.getElem?_take, if_pos (by rw [<- heq']; exact hjl)];simpa using h8)
      (fun j q hj => by
       rcases htr j q hj with h5 | h5
       ·exact .inl h5
       ·exact .inr ⟨h5, by have := (hon j q h5).2; rw [<- heq'] at this; exact this⟩) hk15
     rw [bB] at hk17;exact ⟨_, s', hk17, m', w', _, hrun, hle2, hE, hB, hVR _ _ _ _ hm'⟩
  ·-- what the row bears is known
   have hop' : cap < OPEN := by
    rcases Nat.lt_or_ge cap OPEN with h | h
    ·exact h
    ·rw [show Nat.ble OPEN cap = true from by rw [Nat.ble_eq]; exact h] at hop; cases hop
   obtain ⟨X, Y, hm, rfl⟩ : ∃ X Y, m b = some (X, Y) /\ u = .slice (some ⟨X, off, none⟩) len cap := by
    rcases hx.slice_inv with ⟨_, X, Y, h5, h6⟩ | ⟨h5, _⟩ | ⟨h5, _⟩
    ·exact ⟨X, Y, h5, h6⟩
    ·omega
    ·omega
   obtain ⟨o', hox, cs, rfl, hNs, hcs, hopn, hon⟩ := E.obj b X Y _ hm hg;rcases lB hk7 with ⟨hle, hk8⟩ | ⟨hle, hk8⟩
   ·have hle' : len + n <= cap := by simpa using hle
    obtain ⟨hro, hk9⟩ := Z5 hk8;have hro' : off + (len + n) * i.size <= N := by simpa using hro
    obtain ⟨tr', hk10, _, htr⟩ := gX hk9;obtain ⟨h', hk11, _, hh⟩ := dD hk10;rw [bB] at hk11;obtain ⟨w', hr, hE, hB⟩ := yT E (off := off + len * i.size) (l := more) (l' := new) hm hg hmr hmo (by rw [hml, Nat.add_assoc, <- Nat.add_mul]; exact hro') htr hh;refine ⟨_, _, hk11, m, w', _, jQ h0 ht hi hzv hvz hzs hbn hM hle' (by rw [dQ]; exact hr), Mp.le_refl m, hE, hB, ?_⟩;simp only [VR];refine ⟨trivial, ?_⟩;rw [if_pos hop'];exact ⟨X, Y, hm, rfl⟩
   ·have hle' : ¬ len + n <= cap := by intro h; rw [<- Nat.ble_eq] at h; rw [show Nat.ble (Nat.add len n) cap = true from h] at hle; cases hle
    obtain ⟨oldc, hk9, hol, hoc⟩ := rO hk8;exact grows (.inl ⟨N, tr, e, op, hg, rfl⟩) hk9 hol hoc hop' hle'
end Go.Proofs.YtjkdkpckjgaplaaGreat.Ev
namespace Go.Proofs.YtjkdkpckjgaplaaGreat.Ev
open Go Go.RowKit
theorem yW (off : Nat) : ∀ (l : List Value) (k : Nat) (cs : Array Value), off + k + l.length <= cs.size ->
 ((l.zipIdx k).foldl (fun cs (p : Value × Nat) => cs.setIfInBounds (off + p.2) p.1) cs).size = cs.size /\
 ∀ j, ((l.zipIdx k).foldl (fun cs (p : Value × Nat) => cs.setIfInBounds (off + p.2) p.1) cs)[j]? = if off + k <= j /\ j < off + k + l.length then l[j - (off + k)]? else cs[j]?
 | [], k, cs, _ => by
  refine ⟨rfl, fun j => ?_⟩;rw [if_neg sM];rfl
 | v :: l, k, cs, h => by
  have h' : off + (k + 1) + l.length <= (cs.setIfInBounds (off + k) v).size := by simp at h ⊢; omega
  obtain ⟨h1, h2⟩ := yW off l (k + 1) (cs.setIfInBounds (off + k) v) h';simp only [List.zipIdx_cons, List.foldl_cons];refine ⟨by rw [h1]; simp, fun j => ?_⟩;rw [h2];simp only [List.length_cons];by_cases he : j = off + k
  ·subst he
   rw [if_neg oM, if_pos oM];have : off + k < cs.size := by simp at h; omega
   simp [this]
  ·by_cases hr : off + (k + 1) <= j /\ j < off + (k + 1) + l.length
   ·rw [if_pos hr, if_pos oM, show j - (off + k) = (j - (off + (k + 1))) + 1 by omega, List.getElem?_cons_succ]
   ·rw [if_neg hr, if_neg oM]
    rw [Array.getElem?_setIfInBounds_ne oM]
def PR (m : Mp) (place : Nat -> Option (Nat × Nat)) : List (Nat × Nat × Value) -> List (Nat × Value) -> Prop
 | [], l => l = []
 | (o, n, v) :: ps, l => ∃ i u t, l = (i, u) :: t /\ place i = some (o, n) /\ VR m v u /\ PR m place ps t
theorem vG {m : Mp} {place : Nat -> Option (Nat × Nat)} {N : Nat} : ∀ {ps : List (Nat × Nat × Value)} {l : List (Nat × Value)} {c : BT Value} {cs : Array Value} {k : BT Value -> Bool}, PR m place ps l -> (∀ o n v, (o, n, v) ∈ ps -> o + n <= N) -> cs.size = N ->
 (∀ j v, c.get j = some v -> oneCell v = true /\ ∃ v', cs[j]? = some v' /\ VR m v v') -> lP c ps k = true ->
 ∃ c' cs', k c' = true /\ Instr.fill place cs l = some cs' /\ cs'.size = N /\ (∀ j v, c'.get j = some v -> oneCell v = true /\ ∃ v', cs'[j]? = some v' /\ VR m v v')
 | [], l, c, cs, k, hp, _, hs, hc, hk => by
  simp only [PR] at hp;subst hp;exact ⟨c, cs, hk, rfl, hs, hc⟩
 | (o, n, v) :: ps, l, c, cs, k, hp, hN, hs, hc, hk => by
  simp only [PR] at hp;obtain ⟨i, u, t, rfl, hpl, hv, hp⟩ := hp;obtain ⟨lv, hlv⟩ : ∃ l, v.cells = ⟨l⟩ := ⟨v.cells.toList, rfl⟩;have hk1 : (@Array.rec Value (fun _ => Bool) (fun l => ifB (Nat.beq (kN l) n) (ifB (dU l) (dT c o l (fun c => lP c ps k)) false) false) v.cells) = true := hk;rw [hlv] at hk1;have hk2 : ifB (Nat.beq (kN lv) n) (ifB (dU lv) (dT c o lv (fun c => lP c ps k)) false) false = true := hk1;obtain ⟨h1, hk3⟩ := Z5 hk2;obtain ⟨h2, hk4⟩ := Z5 hk3;have h1' : lv.length = n := by rw [<- iL]; simpa using h1
  obtain ⟨c1, hk5, _, hc1⟩ := gX hk4;have hcells := hv.cells;rw [hlv] at hcells;obtain ⟨lu, hlu⟩ : ∃ l, u.cells = ⟨l⟩ := ⟨u.cells.toList, rfl⟩;rw [hlu] at hcells;have hlen : lu.length = lv.length := LR.length hcells;have hle := hN o n v sM;obtain ⟨g1, g2⟩ := yW o lu 0 cs (by rw [hlen, h1', hs]; exact hle);have hcs1 : (u.cells.zipIdx.foldl (fun cs (p : Value × Nat) => cs.setIfInBounds (o + p.2) p.1) cs) = ((lu.zipIdx 0).foldl (fun cs (p : Value × Nat) => cs.setIfInBounds (o + p.2) p.1) cs) := by
   rw [<- Array.foldl_toList, hlu];simp [Array.toList_zipIdx]
  obtain ⟨c', cs', r1, r2, r3, r4⟩ := vG (place := place) (N := N) (ps := ps) (l := t) (c := c1) (cs := (lu.zipIdx 0).foldl (fun cs (p : Value × Nat) => cs.setIfInBounds (o + p.2) p.1) cs) (k := k) hp (fun o n v h => hN o n v (by simp [h])) (by rw [g1]; exact hs)
   (fun j q hj => by
    rw [hc1] at hj;rw [g2];by_cases h : o <= j /\ j < o + lv.length
    ·rw [if_pos h] at hj
     rw [if_pos (by rw [hlen]; exact h)];obtain ⟨q', h3, h4⟩ := LR.get hcells hj;exact ⟨pR lv h2 q (List.mem_of_getElem? hj), q', h3, h4⟩
    ·rw [if_neg h] at hj
     rw [if_neg (by rw [hlen]; exact h)];exact hc j q hj) hk5
  refine ⟨c', cs', r1, ?_, r3, r4⟩;have hsz : u.cells.size = n := by rw [hlu]; show lu.length = n; omega
  unfold Instr.fill;rw [hpl];simp only;rw [if_neg (by simp [hsz]; omega)];rw [hcs1];exact r2
theorem MI {m : Mp} {T : BT Value} {ρ : Operand -> Value} {place : Nat -> Option (Nat × Nat)} : ∀ {parts : List (Nat × Operand)} {xs : List (Nat × Nat × X)} {ps : List (Nat × Nat × Value)}, cparts place parts = some xs -> Ae T xs ps -> (∀ p ∈ parts, ∀ x v, cx p.2 = some x -> XV T x v -> VR m v (ρ p.2)) ->
 PR m place ps (parts.map fun p => (p.1, ρ p.2))
 | [], xs, ps, hc, hx, _ => by
  simp only [cparts, Option.some.injEq] at hc;subst hc;simp only [Ae] at hx;subst hx;simp only [PR, List.map_nil]
 | (i, x) :: parts, xs, ps, hc, hx, hv => by
  simp only [cparts] at hc;split at hc
  ·rename_i o n x' l h1 h2 h3
   cases hc;simp only [Ae] at hx;obtain ⟨v, vs, rfl, h4, h5⟩ := hx;simp only [PR, List.map_cons];exact ⟨i, ρ x, _, rfl, h1, hv (i, x) sM x' v h2 h4, MI h3 h5 (fun p hp => hv p (by simp [hp]))⟩
  ·cases hc
theorem wS {T : BT Value} {N : Nat} : ∀ {xs : List (Nat × Nat × X)} {ps : List (Nat × Nat × Value)}, inN N xs = true -> Ae T xs ps -> ∀ o n v, (o, n, v) ∈ ps -> o + n <= N
 | [], ps, _, hx, o, n, v, hm => by simp only [Ae] at hx; subst hx; cases hm
 | (o', n', x) :: xs, ps, hN, hx, o, n, v, hm => by
  simp only [Ae] at hx;obtain ⟨u, vs, rfl, h4, h5⟩ := hx;simp only [inN, Bool.and_eq_true, Nat.ble_eq] at hN;rcases List.mem_cons.1 hm with h | h
  ·cases h; exact hN.1
  ·exact wS hN.2 h5 o n v h
theorem Cx {P : Program} (w : World) (fs : Array Field) (h : ∀ f ∈ fs.toList, (P.info? f.type).isSome = true) :
 (fs.mapM fun f => do pure (f.offset, <- sizeOf f.type) : Sem (Array (Nat × Nat))).run P w = .ok (fs.map fun f => (f.offset, ((P.info? f.type).map (·.size)).getD 0)) w := by
 rw [Array.mapM_eq_mapM_toList];have key : ∀ l : List Field, (∀ f ∈ l, (P.info? f.type).isSome = true) -> (l.mapM fun f => do pure (f.offset, <- sizeOf f.type) : Sem (List (Nat × Nat))).run P w = .ok (l.map fun f => (f.offset, ((P.info? f.type).map (·.size)).getD 0)) w := by
  intro l
  induction l with
  | nil => intro _; rfl
  | cons f l ih =>
   intro h;have h1 := h f sM;cases hi : P.info? f.type with
   | none => rw [hi] at h1; cases h1
   | some i =>
    rw [List.mapM_cons];simp only [Sem.run_bind, bE hi, Result.andThen_ok, Sem.run_pure];rw [ih (fun g hg => h g (by simp [hg]))];simp [hi]
 rw [Sem.run_map, key fs.toList h];simp only [Result.andThen_ok]
 congr 1
 apply Array.ext'
 simp
theorem Gd {P : Program} {fs : Array Field} (h : ∀ f ∈ fs.toList, (P.info? f.type).isSome = true) : (fun i => (fs.map fun f => (f.offset, ((P.info? f.type).map (·.size)).getD 0))[i]?) = placesOf P fs := by
 funext i
 unfold placesOf;rw [Array.getElem?_map];cases hf : fs[i]? with
 | none => rfl
 | some f =>
  have := h f (by have := Array.getElem?_eq_some_iff.1 hf; obtain ⟨h1, h2⟩ := this; rw [<- h2]; simp);cases hi : P.info? f.type with
  | none => rw [hi] at this; cases this
  | some inf => simp [hi]
theorem Bk {P : Program} {m : Mp} {w : World} {t : TypeId} {z : Array Value} {place : Nat -> Option (Nat × Nat)} {ps : List (Nat × Nat × Value)} {l : List (Nat × Value)} {k : Value -> Bool} (hz : zeroOf P t = some z)
 (hrun : ∀ cs, Instr.fill place z l = some cs -> (Instr.build t ⟨l⟩).run P w = .ok (.agg cs) w) (hp : PR m place ps l) (hN : ∀ o n v, (o, n, v) ∈ ps -> o + n <= z.size) (hk : oU z.toList ps k = true) :
 ∃ r, k r = true /\ ∃ r', (Instr.build t ⟨l⟩).run P w = .ok r' w /\ VR m r r' := by
 obtain ⟨i, zv, hi, hzv, hvz, hf, hone⟩ := dR hz;unfold oU at hk;obtain ⟨c, hk1, hc⟩ := iP hk;obtain ⟨c', cs', hk2, hfill, hsz, hc'⟩ := vG (N := z.size) hp hN rfl (fun j v hj => by
  have h1 := hc j v hj;exact ⟨hone v (List.mem_of_getElem? h1), v, by simpa using h1, VR.flat v (by
   have : ∀ (l : List Value), flatL l = true -> ∀ v ∈ l, flat v = true := by
    intro l
    induction l with
    | nil => intro _ v hv; cases hv
    | cons a l ih =>
     intro h v hv;simp only [flatL, Bool.and_eq_true] at h;rcases List.mem_cons.1 hv with rfl | hv
     ·exact h.1
     ·exact ih h.2 v hv
   exact this _ hf v (List.mem_of_getElem? h1))⟩) hk1
 obtain ⟨lr, hk3, hlr, hg⟩ := rO hk2;have hlen : lr.length = z.size := by rw [hlr, iL]; rfl
 refine ⟨_, hk3, .agg cs', hrun cs' hfill, ?_⟩;simp only [VR];refine ⟨cs', rfl, ?_⟩;obtain ⟨csl⟩ := cs';simp only [AR];refine ⟨csl, rfl, LR.of_get (by rw [hlen]; exact hsz) (fun j v hj => ?_)⟩;have hjl := (List.getElem?_eq_some_iff.1 hj).1;have h1 := hg j (by rw [iL]; show j < z.size; omega);rw [Nat.zero_add, hj] at h1;obtain ⟨_, v', h2, h3⟩ := hc' j v h1;exact ⟨v', by simpa using h2, h3⟩
theorem Nf {P : Program} {K : Kp} {B : Nat} {m : Mp} {s : St} {w : World} {t e len : Nat} {i : TypeInfo} {z : Array Value} {ps : List (Nat × Nat × Value)} {l : List (Nat × Value)} {k : Value -> St -> Bool} (ht : P.underlying t = some (.slice e)) (hi : P.info? e = some i) (hz : zeroOf P e = some z) (hzs : z.size = i.size) (h16 : len * i.size <= 65536) (hlen : len <= 65536)
 (E : cN P K B m s w) (hp : PR m (fun k => some (k * i.size, i.size)) ps l) (hN : ∀ o n v, (o, n, v) ∈ ps -> o + n <= len * i.size) (hk : Bc s e len (len * i.size) (repeatN z.toList len) ps k = true) :
 ∃ r s', k r s' = true /\ ∃ m' w' r', (Instr.buildSlice t len ⟨l⟩).run P w = .ok r' w' /\ m.le m' /\ cN P K B m' s' w' /\ Below B w w' /\ VR m' r r' := by
 obtain ⟨i', zv, hi2, hzv, hvz, hf, hone⟩ := dR hz;rw [hi] at hi2; cases hi2;unfold Bc at hk;have hrl : (repeatN z.toList len).length = len * i.size := by rw [bV]; show len * z.size = _; rw [hzs]
 obtain ⟨c, hk1, hc⟩ := iP hk;have hff : ∀ v ∈ repeatN z.toList len, flat v = true := by
  have : ∀ (l : List Value), flatL l = true -> ∀ v ∈ l, flat v = true := by
   intro l
   induction l with
   | nil => intro _ v hv; cases hv
   | cons a l ih =>
    intro h v hv;simp only [flatL, Bool.and_eq_true] at h;rcases List.mem_cons.1 hv with rfl | hv
    ·exact h.1
    ·exact ih h.2 v hv
  exact this _ (fV hf len)
 obtain ⟨c', cs', hk2, hfill, hsz, hc'⟩ := vG (cs := ⟨repeatN z.toList len⟩) (N := len * i.size) hp hN hrl (fun j v hj => by
  have h1 := hc j v hj;exact ⟨hJ hone len v (List.mem_of_getElem? h1), v, by simpa using h1, VR.flat v (hff v (List.mem_of_getElem? h1))⟩) hk1
 have hk3 := eU hk2;have hr : OR P (m.put s.n w.heap.size 0) s.n (.cells (len * i.size) c' e false) (.cells cs' e (0, 0)) := by
  refine ⟨cs', rfl, by rw [hsz]; exact Nat.le_refl _, fun j v hj => ?_, sM, fun j v hj => ?_⟩
  ·obtain ⟨_, v', h1, h2⟩ := hc' j v hj
   exact ⟨v', h1, h2.mono (Mp.put_le E.none)⟩
  ·obtain ⟨h0, v', h1, h2⟩ := hc' j v hj
   exact ⟨h0, by rw [<- hsz]; exact (Array.getElem?_eq_some_iff.1 h1).1⟩
 obtain ⟨s', hk4, hE, hB, hle, _⟩ := oX E 0 hr hk3;refine ⟨_, s', hk4, _, _, .slice (some ⟨w.heap.size, 0, none⟩) len len, ?_, hle, hE, hB, ?_⟩
 ·have hcell : ∀ Z : Array Value, (Z = if len * i.size = 0 then #[] else z) -> (Array.range (len * i.size)).map (fun j => Z[j % Z.size]!) = ⟨repeatN z.toList len⟩ := by
   rintro Z rfl;by_cases h0 : len * i.size = 0
   ·rw [h0]
    apply Array.ext'
    have e0 := List.eq_nil_of_length_eq_zero (hrl.trans h0);simp only [e0, Array.toList_map, Array.toList_range, List.range_zero, List.map_nil]
   ·rw [if_neg h0, <- hzs]; exact jY z len
  have hz2 : (if len * i.size = 0 then pure #[] else do pure (<- zeroValue e).cells : Sem (Array Value)).run P w = .ok (if len * i.size = 0 then #[] else z) w := by
   by_cases h0 : len * i.size = 0
   ·rw [if_pos h0, if_pos h0]; rfl
   ·rw [if_neg h0, if_neg h0, Sem.run_bind, eO hi hzv]
    show Result.ok zv.cells w = _;rw [hvz]
  have hbig : ¬ len * i.size > 2 ^ 24 := oM
  unfold Instr.buildSlice;simp only [Sem.run_bind, Y5 ht, Result.andThen_ok, bE hi, if_neg hbig, Sem.run_pure, Sem.run_ite];by_cases h0 : len * i.size = 0
  ·have hc0 := hcell #[] (by rw [if_pos h0])
   simp only [if_pos h0, Sem.run_bind, Sem.run_pure, Result.andThen_ok];rw [hc0, hfill];simp [newRow]
  ·have hc0 := hcell z (by rw [if_neg h0])
   simp only [if_neg h0, Sem.run_bind, Sem.run_pure, Result.andThen_ok, eO hi hzv, hvz];rw [hc0, hfill];simp [newRow]
 ·simp only [VR]
  refine ⟨trivial, ?_⟩;rw [if_pos (by unfold OPEN; omega)];exact ⟨_, _, Mp.put_same _ _ _ _, rfl⟩
end Go.Proofs.YtjkdkpckjgaplaaGreat.Ev
namespace Go.Proofs.YtjkdkpckjgaplaaGreat.Ev
open Go Go.RowKit
theorem wT {m : Mp} {T : BT Value} {ρ : Operand -> Value} : ∀ {l : List Operand} {xs : List X} {vs : List Value}, cxs l = some xs -> Ci T xs vs -> (∀ x ∈ l, ∀ X v, cx x = some X -> XV T X v -> VR m v (ρ x)) -> LR m vs (l.map ρ)
 | [], xs, vs, h, hv, _ => by
  simp only [cxs, Option.some.injEq] at h; subst h;simp only [Ci] at hv; subst hv;simp only [LR, List.map_nil]
 | x :: l, xs, vs, h, hv, k => by
  simp only [cxs] at h;split at h
  ·rename_i X Xs h1 h2
   cases h;simp only [Ci] at hv;obtain ⟨v, vs', rfl, h3, h4⟩ := hv;simp only [LR, List.map_cons];exact ⟨ρ x, _, rfl, k x sM X v h1 h3, wT h2 h4 (fun y hy => k y (by simp [hy]))⟩
  ·cases h
theorem tG {m : Mp} {T : BT Value} {ρ : Operand -> Value} {x : Option Operand} {X' : Option X} {v : Option Value} (h : cxo x = some X') (hv : XO T X' v) (k : ∀ y, x = some y -> ∀ X v, cx y = some X -> XV T X v -> VR m v (ρ y)) : VO m v (x.map ρ) := by
 cases x with
 | none =>
  simp only [cxo, Option.some.injEq] at h; subst h;simp only [XO] at hv; subst hv;simp only [VO, Option.map_none]
 | some y =>
  simp only [cxo, Option.map_eq_some_iff] at h;obtain ⟨X, h1, rfl⟩ := h;simp only [XO] at hv;obtain ⟨u, rfl, h2⟩ := hv;simp only [VO, Option.map_some];exact ⟨_, rfl, k y rfl X u h1 h2⟩
def Hρ (m : Mp) (T : BT Value) (ρ : Operand -> Value) (op : Op) : Prop := ∀ x ∈ op.operands, ∀ X v, cx x = some X -> XV T X v -> VR m v (ρ x)
section
variable {P : Program} {K : Kp} {B : Nat} {m : Mp} {s : St} {w : World} {T : BT Value} {ρ : Operand -> Value} {k : Value -> St -> Bool} {dst : Option Tmp} {ty : TypeId} {pos : String} {af : Array Edge} {gd : Option (Nat × Bool)} {c : COp}
def aW (P : Program) (K : Kp) (B : Nat) (m : Mp) (w : World) (k : Value -> St -> Bool) (r : Result Next) : Prop := ∃ v s', k v s' = true /\ I9 P K B m w r v s'
theorem aW.keep (E : cN P K B m s w) {v u : Value} {r : Result Next} (hk : k v s = true) (h : VR m v u) (hr : r = .ok (.value u) w) : aW P K B m w k r := ⟨v, s, hk, I9.pure E h hr⟩
theorem Dn {x : Operand} {op : Op} (ho : op = .move x ∨ op = .assign x) (hc : compOp P ⟨dst, op, ty, pos, af, gd⟩ = some c) (hρ : Hρ m T ρ op) (E : cN P K B m s w) (hk : V6 P T s c k = true) : aW P K B m w k ((execOp ρ ⟨dst, op, ty, pos, af, gd⟩).run P w) := by
 have hc' : (cx x).map COp.mov = some c := by rcases ho with rfl | rfl <;> exact hc
 obtain ⟨X, h1, rfl⟩ := Option.map_eq_some_iff.1 hc';obtain ⟨v, hv, hk⟩ := Q4 (k := vK s k) hk;refine aW.keep E hk (hρ x (by rcases ho with rfl | rfl <;> simp [Op.operands]) X v h1 hv) ?_;rcases ho with rfl | rfl <;> rfl
theorem Jf {a b d : Operand} (hc : compOp P ⟨dst, .pick a b d, ty, pos, af, gd⟩ = some c) (hρ : Hρ m T ρ (.pick a b d)) (E : cN P K B m s w) (hk : V6 P T s c k = true) : aW P K B m w k ((execOp ρ ⟨dst, .pick a b d, ty, pos, af, gd⟩).run P w) := by
 simp only [compOp] at hc;split at hc
 ·rename_i A C D h1 h2 h3
  cases hc;have hk1 : bF T A (fun c => bF T C (fun a => bF T D (fun b => rM c a b (vK s k)))) = true := hk;obtain ⟨va, ha, hk2⟩ := Q4 hk1;obtain ⟨vb, hb, hk3⟩ := Q4 hk2;obtain ⟨vd, hd, hk4⟩ := Q4 hk3;have ra := hρ a (by simp [Op.operands]) A va h1 ha;have rb := hρ b (by simp [Op.operands]) C vb h2 hb;have rd := hρ d (by simp [Op.operands]) D vd h3 hd;obtain ⟨t, rfl, hk5⟩ := nG hk4;have e : ρ a = .bool t := by simpa only [VR] using ra
  cases t with
  | true => exact aW.keep E hk5 rb (by simp [execOp, e, asBool])
  | false => exact aW.keep E hk5 rd (by simp [execOp, e, asBool])
 ·cases hc
theorem Ge {t : TypeId} (hc : compOp P ⟨dst, .alloc t, ty, pos, af, gd⟩ = some c) (E : cN P K B m s w) (hk : V6 P T s c k = true) : aW P K B m w k ((execOp ρ ⟨dst, .alloc t, ty, pos, af, gd⟩).run P w) := by
 simp only [compOp] at hc;obtain ⟨z, h1, rfl⟩ := Option.map_eq_some_iff.1 hc;obtain ⟨v, s', hk2, m', w', u, hr, hle, hE, hB, hv⟩ := F7 h1 E hk;exact ⟨v, s', hk2, m', w', .value u, by simp [execOp, hr], trivial, hle, hE, hB, hv⟩
theorem Ng {t : TypeId} {x : Operand} (hc : compOp P ⟨dst, .box t x, ty, pos, af, gd⟩ = some c) (hρ : Hρ m T ρ (.box t x)) (E : cN P K B m s w) (hk : V6 P T s c k = true) : aW P K B m w k ((execOp ρ ⟨dst, .box t x, ty, pos, af, gd⟩).run P w) := by
 simp only [compOp] at hc;obtain ⟨X, h1, rfl⟩ := Option.map_eq_some_iff.1 hc;obtain ⟨v, hv, hk1⟩ := Q4 (k := fun v => Fc s t v k) hk;obtain ⟨r, s', hk2, m', w', u, hr, hle, hE, hB, hv⟩ := M3 E (hρ x (by simp [Op.operands]) X v h1 hv) hk1;exact ⟨r, s', hk2, m', w', .value u, by simp [execOp, hr], trivial, hle, hE, hB, hv⟩
theorem Jg {t : TypeId} {x : Operand} (hc : compOp P ⟨dst, .load t x, ty, pos, af, gd⟩ = some c) (hρ : Hρ m T ρ (.load t x)) (E : cN P K B m s w) (hk : V6 P T s c k = true) : aW P K B m w k ((execOp ρ ⟨dst, .load t x, ty, pos, af, gd⟩).run P w) := by
 simp only [compOp] at hc;split at hc
 ·rename_i n A h1 h2
  cases hc;obtain ⟨v, hv, hk1⟩ := Q4 (k := fun a => Cq s n a (vK s k)) hk;obtain ⟨r, hk2, r', hr, hrr⟩ := MH h1 E (hρ x (by simp [Op.operands]) A v h2 hv) hk1;exact aW.keep E hk2 hrr (by simp [execOp, hr])
 ·cases hc
theorem Gf {t : TypeId} {x y : Operand} (hc : compOp P ⟨dst, .store t x y, ty, pos, af, gd⟩ = some c) (hρ : Hρ m T ρ (.store t x y)) (E : cN P K B m s w) (hk : V6 P T s c k = true) : aW P K B m w k ((execOp ρ ⟨dst, .store t x y, ty, pos, af, gd⟩).run P w) := by
 simp only [compOp] at hc;split at hc
 ·rename_i n i A C h1 h2 h3 h4
  obtain ⟨h5, hc⟩ := bU hc;cases hc;have hk1 : bF T A (fun a => bF T C (fun x => I7 s n x a (k undef))) = true := hk;obtain ⟨va, ha, hk2⟩ := Q4 hk1;obtain ⟨vb, hb, hk3⟩ := Q4 hk2;obtain ⟨s', hk4, w', hr, hE, hB⟩ := OI h1 h2 (fun h => by subst h; simpa using h5) E (hρ y (by simp [Op.operands]) C vb h4 hb) (hρ x (by simp [Op.operands]) A va h3 ha) hk3;exact ⟨undef, s', hk4, m, w', .skip, by simp [execOp, hr], trivial, Mp.le_refl m, hE, hB, VR.flat undef rfl⟩
 ·cases hc
theorem Jh {x : Operand} (hc : compOp P ⟨dst, .nilCheck x, ty, pos, af, gd⟩ = some c) (hρ : Hρ m T ρ (.nilCheck x)) (E : cN P K B m s w) (hk : V6 P T s c k = true) : aW P K B m w k ((execOp ρ ⟨dst, .nilCheck x, ty, pos, af, gd⟩).run P w) := by
 simp only [compOp] at hc;obtain ⟨X, h1, rfl⟩ := Option.map_eq_some_iff.1 hc;obtain ⟨v, hv, hk1⟩ := Q4 (k := fun v => Di v (vK s k)) hk;obtain ⟨r, hr, hk2⟩ := lC hk1;have h2 := hρ x (by simp [Op.operands]) X v h1 hv;refine aW.keep E hk2 h2 ?_;rcases Jb h2 hr with ⟨a, e⟩ | ⟨f, p, c, e⟩ <;> simp [execOp, e]
theorem Nh {b : BinOp} {t t' : TypeId} {x y : Operand} (hc : compOp P ⟨dst, .binOp b t x y t', ty, pos, af, gd⟩ = some c) (hρ : Hρ m T ρ (.binOp b t x y t')) (E : cN P K B m s w) (hk : V6 P T s c k = true) : aW P K B m w k ((execOp ρ ⟨dst, .binOp b t x y t', ty, pos, af, gd⟩).run P w) := by
 simp only [compOp] at hc;split at hc
 ·rename_i A C h1 h2
  cases hc;have hk1 : bF T A (fun x => bF T C (fun y => F2 P b t (nilKind P t) x y (vK s k))) = true := hk;obtain ⟨va, ha, hk2⟩ := Q4 hk1;obtain ⟨vb, hb, hk3⟩ := Q4 hk2;obtain ⟨r, hr, hk4⟩ := lC hk3;rw [cL] at hk4;obtain ⟨h5, h6⟩ := M8 (w := w) (hρ x (by simp [Op.operands]) A va h1 ha) (hρ y (by simp [Op.operands]) C vb h2 hb) hr x y;refine aW.keep E hk4 h6 ?_;have e : (execOp ρ ⟨dst, .binOp b t x y t', ty, pos, af, gd⟩) = (do pure (.value (<- (do eqGuard b t x y (ρ x) (ρ y); binOp b t (ρ x) (ρ y))))) := rfl;rw [e, Sem.run_bind, h5];rfl
 ·cases hc
end
end Go.Proofs.YtjkdkpckjgaplaaGreat.Ev
namespace Go.Proofs.YtjkdkpckjgaplaaGreat.Ev
open Go Go.RowKit
theorem rP (ρ : Operand -> Value) (a : Array Operand) : a.map ρ = ⟨a.toList.map ρ⟩ := by
 apply Array.ext'
 simp
theorem tH (ρ : Operand -> Value) (a : Array (Nat × Operand)) : (a.map fun (p : Nat × Operand) => (p.1, ρ p.2)) = ⟨a.toList.map fun (p : Nat × Operand) => (p.1, ρ p.2)⟩ := by
 apply Array.ext'
 simp
section
variable {P : Program} {K : Kp} {B : Nat} {m : Mp} {s : St} {w : World} {T : BT Value} {ρ : Operand -> Value} {k : Value -> St -> Bool} {dst : Option Tmp} {ty : TypeId} {pos : String} {af : Array Edge} {gd : Option (Nat × Bool)} {c : COp}
theorem nI {x : Option Value} (h : oK s k x = true) : ∃ v, x = some v /\ k v s = true := by
 cases x with
 | none => cases h
 | some v => exact ⟨v, rfl, by simpa [oK, nE, vK, cL] using h⟩
theorem aW.of {e : Sem Value} {op : Oper} (h : ∃ v s', k v s' = true /\ ∃ m' w' u, e.run P w = .ok u w' /\ m.le m' /\ cN P K B m' s' w' /\ Below B w w' /\ VR m' v u) (he : execOp ρ op = (do pure (.value (<- e)))) : aW P K B m w k ((execOp ρ op).run P w) := by
 obtain ⟨v, s', hk, m', w', u, hr, hle, hE, hB, hv⟩ := h;refine ⟨v, s', hk, m', w', .value u, ?_, trivial, hle, hE, hB, hv⟩;rw [he, Sem.run_bind, hr];rfl
theorem aW.ofK (E : cN P K B m s w) {e : Sem Value} {op : Oper} (h : ∃ v, k v s = true /\ ∃ u, e.run P w = .ok u w /\ VR m v u) (he : execOp ρ op = (do pure (.value (<- e)))) : aW P K B m w k ((execOp ρ op).run P w) := by
 obtain ⟨v, hk, u, hr, hv⟩ := h;exact aW.of ⟨v, s, hk, m, w, u, hr, Mp.le_refl m, E, Below.refl B w, hv⟩ he
theorem ON {u : UnOp} {t : TypeId} {x : Operand} (hc : compOp P ⟨dst, .unOp u t x, ty, pos, af, gd⟩ = some c) (hρ : Hρ m T ρ (.unOp u t x)) (E : cN P K B m s w) (hk : V6 P T s c k = true) : aW P K B m w k ((execOp ρ ⟨dst, .unOp u t x, ty, pos, af, gd⟩).run P w) := by
 simp only [compOp] at hc;obtain ⟨X, h1, rfl⟩ := Option.map_eq_some_iff.1 hc;obtain ⟨v, hv, hk1⟩ := Q4 (k := fun x => oK s k (ev1 P (Op.unary u) x)) hk;obtain ⟨r, hr, hk2⟩ := nI hk1;obtain ⟨h2, h3⟩ := Af (w := w) (hρ x (by simp [Op.operands]) X v h1 hv) hr;exact aW.ofK E ⟨r, hk2, r, h2, h3⟩ rfl
theorem Ji {a b : TypeId} {x : Operand} (hc : compOp P ⟨dst, .convert a b x, ty, pos, af, gd⟩ = some c) (hρ : Hρ m T ρ (.convert a b x)) (E : cN P K B m s w) (hk : V6 P T s c k = true) : aW P K B m w k ((execOp ρ ⟨dst, .convert a b x, ty, pos, af, gd⟩).run P w) := by
 simp only [compOp] at hc;obtain ⟨X, h1, rfl⟩ := Option.map_eq_some_iff.1 hc;obtain ⟨v, hv, hk1⟩ := Q4 (k := fun x => oK s k (ev1 P (convert a b) x)) hk;obtain ⟨r, hr, hk2⟩ := nI hk1;obtain ⟨h2, h3⟩ := Af (w := w) (hρ x (by simp [Op.operands]) X v h1 hv) hr;exact aW.ofK E ⟨r, hk2, r, h2, h3⟩ rfl
theorem Jj {t : TypeId} {x : Operand} (hc : compOp P ⟨dst, .makeInterface t x, ty, pos, af, gd⟩ = some c) (hρ : Hρ m T ρ (.makeInterface t x)) (E : cN P K B m s w) (hk : V6 P T s c k = true) : aW P K B m w k ((execOp ρ ⟨dst, .makeInterface t x, ty, pos, af, gd⟩).run P w) := by
 simp only [compOp] at hc;obtain ⟨X, h1, rfl⟩ := Option.map_eq_some_iff.1 hc;obtain ⟨v, hv, hk1⟩ := Q4 (k := fun x => oK s k (ev1 P (Instr.makeInterface t) x)) hk;obtain ⟨r, hr, hk2⟩ := nI hk1;obtain ⟨h2, h3⟩ := Af (w := w) (hρ x (by simp [Op.operands]) X v h1 hv) hr;exact aW.ofK E ⟨r, hk2, r, h2, h3⟩ rfl
theorem Ni {a b : TypeId} {o : Bool} {x : Operand} (hc : compOp P ⟨dst, .typeAssert x a b o, ty, pos, af, gd⟩ = some c) (hρ : Hρ m T ρ (.typeAssert x a b o)) (E : cN P K B m s w) (hk : V6 P T s c k = true) : aW P K B m w k ((execOp ρ ⟨dst, .typeAssert x a b o, ty, pos, af, gd⟩).run P w) := by
 simp only [compOp] at hc;obtain ⟨X, h1, rfl⟩ := Option.map_eq_some_iff.1 hc;obtain ⟨v, hv, hk1⟩ := Q4 (k := fun x => oK s k (ev1 P (fun v => Instr.typeAssert v a b o) x)) hk;obtain ⟨r, hr, hk2⟩ := nI hk1;obtain ⟨h2, h3⟩ := Af (w := w) (hρ x (by simp [Op.operands]) X v h1 hv) hr;exact aW.ofK E ⟨r, hk2, r, h2, h3⟩ rfl
theorem OO {f : FuncId} {p q : Array Operand} (hc : compOp P ⟨dst, .makeFunc (.func f) p q, ty, pos, af, gd⟩ = some c) (hρ : Hρ m T ρ (.makeFunc (.func f) p q)) (E : cN P K B m s w) (hk : V6 P T s c k = true) : aW P K B m w k ((execOp ρ ⟨dst, .makeFunc (.func f) p q, ty, pos, af, gd⟩).run P w) := by
 simp only [compOp] at hc;split at hc
 ·rename_i xs ys h1 h2
  cases hc;obtain ⟨vs, hv, hk1⟩ := kU (k := fun p => gF T ys (fun c => k (.func (.func f) ⟨p⟩ ⟨c⟩) s)) hk;obtain ⟨us, hu, hk2⟩ := kU hk1;have e1 := wT h1 hv (fun x hx X v => hρ x (by simp [Op.operands]; exact .inl (by simpa using hx)) X v);have e2 := wT h2 hu (fun x hx X v => hρ x (by simp [Op.operands]; exact .inr (by simpa using hx)) X v);refine aW.ofK E ⟨_, hk2, .func (.func f) (p.map ρ) (q.map ρ), rfl, ?_⟩ rfl;rw [rP, rP];simp only [VR, AR];exact ⟨_, _, rfl, ⟨_, rfl, e1⟩, ⟨_, rfl, e2⟩⟩
 ·cases hc
theorem Nj {t : TypeId} {x y : Operand} (hc : compOp P ⟨dst, .makeSlice t x y, ty, pos, af, gd⟩ = some c) (hρ : Hρ m T ρ (.makeSlice t x y)) (E : cN P K B m s w) (hk : V6 P T s c k = true) : aW P K B m w k ((execOp ρ ⟨dst, .makeSlice t x y, ty, pos, af, gd⟩).run P w) := by
 simp only [compOp] at hc;split at hc
 ·rename_i e X Y h1 h2 h3
  split at hc
  ·rename_i i z h4 h5
   obtain ⟨h6, hc⟩ := bU hc;cases hc;obtain ⟨vx, hx, hk1⟩ := Q4 (k := fun l => bF T Y (fun c => Be s e i.size i.bytes z.toList l c k)) hk;obtain ⟨vy, hy, hk2⟩ := Q4 hk1;exact aW.of (Nc h1 h4 h5 (by simpa using h6) E (hρ x (by simp [Op.operands]) X vx h2 hx) (hρ y (by simp [Op.operands]) Y vy h3 hy) hk2) rfl
  ·cases hc
 ·cases hc
theorem OP {t : TypeId} {x : Operand} {f : Nat} (hc : compOp P ⟨dst, .fieldAddr t x f, ty, pos, af, gd⟩ = some c) (hρ : Hρ m T ρ (.fieldAddr t x f)) (E : cN P K B m s w) (hk : V6 P T s c k = true) : aW P K B m w k ((execOp ρ ⟨dst, .fieldAddr t x f, ty, pos, af, gd⟩).run P w) := by
 simp only [compOp] at hc;split at hc
 ·rename_i fs X h1 h2
  split at hc
  ·rename_i fd h3
   split at hc
   ·rename_i i h4
    cases h0 : Nat.beq i.size 0 with
    | true => rw [h0] at hc; cases hc
    | false =>
     rw [h0] at hc;cases hc;obtain ⟨vx, hx, hk1⟩ := Q4 (k := fun x => Ow x fd.offset (vK s k)) hk;have h0' : i.size ≠ 0 := by
      intro e;rw [e] at h0;cases h0
     exact aW.ofK E (OJ (w := w) h1 h3 h4 h0' (hρ x (by simp [Op.operands]) X vx h2 hx) hk1) rfl
   ·cases hc
  ·cases hc
 ·cases hc
theorem Nk {t : TypeId} {x : Operand} {f : Nat} (hc : compOp P ⟨dst, .field t x f, ty, pos, af, gd⟩ = some c) (hρ : Hρ m T ρ (.field t x f)) (E : cN P K B m s w) (hk : V6 P T s c k = true) : aW P K B m w k ((execOp ρ ⟨dst, .field t x f, ty, pos, af, gd⟩).run P w) := by
 simp only [compOp] at hc;split at hc
 ·rename_i fs X h1 h2
  split at hc
  ·rename_i fd h3
   obtain ⟨n, h4, rfl⟩ := Option.map_eq_some_iff.1 hc;obtain ⟨vx, hx, hk1⟩ := Q4 (k := fun x => rJ x (fun l => yR l fd.offset n (vK s k))) hk;exact aW.ofK E (M5 (w := w) h1 h3 h4 (hρ x (by simp [Op.operands]) X vx h2 hx) hk1) rfl
  ·cases hc
 ·cases hc
theorem OQ {t : TypeId} {x y : Operand} (hc : compOp P ⟨dst, .indexAddr t x y, ty, pos, af, gd⟩ = some c) (hρ : Hρ m T ρ (.indexAddr t x y)) (E : cN P K B m s w) (hk : V6 P T s c k = true) : aW P K B m w k ((execOp ρ ⟨dst, .indexAddr t x y, ty, pos, af, gd⟩).run P w) := by
 simp only [compOp] at hc;split at hc
 ·rename_i e X Y h1 h2 h3
  obtain ⟨i, h4, rfl⟩ := Option.map_eq_some_iff.1 hc;obtain ⟨vx, hx, hk1⟩ := Q4 (k := fun x => bF T Y (fun j => Ox x j i.size (vK s k))) hk;obtain ⟨vy, hy, hk2⟩ := Q4 hk1;exact aW.ofK E (OL (w := w) h1 h4 (hρ x (by simp [Op.operands]) X vx h2 hx) (hρ y (by simp [Op.operands]) Y vy h3 hy) hk2) rfl
 ·rename_i n e X Y h1 h2 h3
  obtain ⟨i, h4, rfl⟩ := Option.map_eq_some_iff.1 hc;obtain ⟨vx, hx, hk1⟩ := Q4 (k := fun x => bF T Y (fun j => Cr x j n i.size (vK s k))) hk;obtain ⟨vy, hy, hk2⟩ := Q4 hk1;exact aW.ofK E (M4 (w := w) h1 h4 (hρ x (by simp [Op.operands]) X vx h2 hx) (hρ y (by simp [Op.operands]) Y vy h3 hy) hk2) rfl
 ·cases hc
theorem OS {t : TypeId} {x y : Operand} (hc : compOp P ⟨dst, .index t x y, ty, pos, af, gd⟩ = some c) (hρ : Hρ m T ρ (.index t x y)) (E : cN P K B m s w) (hk : V6 P T s c k = true) : aW P K B m w k ((execOp ρ ⟨dst, .index t x y, ty, pos, af, gd⟩).run P w) := by
 simp only [compOp] at hc;split at hc
 ·rename_i n e X Y h1 h2 h3
  split at hc
  ·rename_i i q h4 h5
   cases hc;obtain ⟨vx, hx, hk1⟩ := Q4 (k := fun x => bF T Y (fun j => OF x j n i.size q (vK s k))) hk;obtain ⟨vy, hy, hk2⟩ := Q4 hk1;exact aW.ofK E (OM (w := w) h1 h4 h5 (hρ x (by simp [Op.operands]) X vx h2 hx) (hρ y (by simp [Op.operands]) Y vy h3 hy) hk2) rfl
  ·cases hc
 ·rename_i X Y h1 h2 h3
  cases hc;obtain ⟨vx, hx, hk1⟩ := Q4 (k := fun x => bF T Y (fun i => oK s k (evIxs P t x i))) hk;obtain ⟨vy, hy, hk2⟩ := Q4 hk1;obtain ⟨r, hr, hk3⟩ := nI hk2;unfold evIxs at hr;obtain ⟨hf, hr⟩ := bU hr;simp only [Bool.and_eq_true] at hf;obtain ⟨h4, h5⟩ := mG hr;have ex := VR.same vx hf.1 (hρ x (by simp [Op.operands]) X vx h2 hx);have ey := VR.same vy hf.2 (hρ y (by simp [Op.operands]) Y vy h3 hy);refine aW.ofK E ⟨r, hk3, r, ?_, VR.flat r h5⟩ (e := Instr.index t (ρ x) (ρ y)) rfl;rw [ex, ey];exact jX h4 w
 ·cases hc
theorem Nl {x : Operand} {i : Nat} (hc : compOp P ⟨dst, .extract x i, ty, pos, af, gd⟩ = some c) (hρ : Hρ m T ρ (.extract x i)) (E : cN P K B m s w) (hk : V6 P T s c k = true) : aW P K B m w k ((execOp ρ ⟨dst, .extract x i, ty, pos, af, gd⟩).run P w) := by
 simp only [compOp] at hc;obtain ⟨X, h1, rfl⟩ := Option.map_eq_some_iff.1 hc;obtain ⟨v, hv, hk1⟩ := Q4 (k := fun x => nD x (fun l => Aa l i (vK s k))) hk;exact aW.ofK E (M6 (w := w) (hρ x (by simp [Op.operands]) X v h1 hv) hk1) rfl
theorem uP {t : TypeId} {d : TypeDesc} {u : Value} {lo hi mx : Option Value} (ht : P.underlying t = some d) (hd : ∀ n e, d ≠ .array n e) : (Instr.sliceAt t u lo hi mx).run P w = (Instr.slice t u lo hi mx).run P w := by
 unfold Instr.sliceAt;cases d with
 | array n e => exact absurd rfl (hd _ _)
 | _ => simp only [Sem.run_bind, Y5 ht, Result.andThen_ok]
theorem VO.flat_same {v u : Option Value} (h : VO m v u) (hf : flatO v = true) : u = v := by
 cases v with
 | none => simpa only [VO] using h
 | some v =>
  simp only [VO] at h;obtain ⟨u', rfl, h⟩ := h;rw [VR.same v hf h]
theorem Nm {t : TypeId} {x : Operand} {lo hi mx : Option Operand} (hc : compOp P ⟨dst, .slice t x lo hi mx, ty, pos, af, gd⟩ = some c) (hρ : Hρ m T ρ (.slice t x lo hi mx)) (E : cN P K B m s w) (hk : V6 P T s c k = true) : aW P K B m w k ((execOp ρ ⟨dst, .slice t x lo hi mx, ty, pos, af, gd⟩).run P w) := by
 have q0 : ∀ X v, cx x = some X -> XV T X v -> VR m v (ρ x) := fun X v => hρ x (by simp [Op.operands]) X v
 have q1 : ∀ y, lo = some y -> ∀ X v, cx y = some X -> XV T X v -> VR m v (ρ y) := fun y h X v => hρ y (by subst h; simp [Op.operands]) X v
 have q2 : ∀ y, hi = some y -> ∀ X v, cx y = some X -> XV T X v -> VR m v (ρ y) := fun y h X v => hρ y (by subst h; simp [Op.operands]) X v
 have q3 : ∀ y, mx = some y -> ∀ X v, cx y = some X -> XV T X v -> VR m v (ρ y) := fun y h X v => hρ y (by subst h; simp [Op.operands]) X v
 simp only [compOp] at hc;split at hc
 ·rename_i e X lo' hi' mx' h1 h2 h3 h4 h5
  split at hc
  ·rename_i i h6
   obtain ⟨h7, hc⟩ := bU hc;cases hc;obtain ⟨vx, hx, hk1⟩ := Q4 (k := fun x => dJ T lo' (fun lo => dJ T hi' (fun hi => dJ T mx' (fun mx => kE s e i.size x lo hi mx (vK s k))))) hk;obtain ⟨vl, hl, hk2⟩ := fF hk1;obtain ⟨vh, hh, hk3⟩ := fF hk2;obtain ⟨vm, hm, hk4⟩ := fF hk3;unfold kE at hk4;obtain ⟨r, hr, hk5⟩ := lC hk4;rw [cL] at hk5;have hx' : vm.isNone = true ∨ vh.isSome = true := by
    rcases (by simpa using h7 : mx' = none ∨ hi'.isSome = true) with h | h
    ·subst h
     simp only [XO] at hm;subst hm;exact .inl rfl
    ·obtain ⟨Y, rfl⟩ := Option.isSome_iff_exists.1 h
     simp only [XO] at hh;obtain ⟨v, rfl, _⟩ := hh;exact .inr rfl
   obtain ⟨r', hr', hv⟩ := M9 h1 h6 hx' E (q0 X vx h2 hx) (tG h3 hl q1) (tG h4 hh q2) (tG h5 hm q3) hr;exact aW.ofK E ⟨r, hk5, r', by rw [uP h1 sM]; exact hr', hv⟩ (e := Instr.sliceAt t (ρ x) (lo.map ρ) (hi.map ρ) (mx.map ρ)) rfl
  ·cases hc
 ·rename_i X lo' hi' mx' h1 h2 h3 h4 h5
  cases hc;obtain ⟨vx, hx, hk1⟩ := Q4 (k := fun x => dJ T lo' (fun lo => dJ T hi' (fun hi => dJ T mx' (fun mx => oK s k (evSlcn P t x lo hi mx))))) hk;obtain ⟨vl, hl, hk2⟩ := fF hk1;obtain ⟨vh, hh, hk3⟩ := fF hk2;obtain ⟨vm, hm, hk4⟩ := fF hk3;obtain ⟨r, hr, hk5⟩ := nI hk4;unfold evSlcn at hr;obtain ⟨hf, hr⟩ := bU hr;simp only [Bool.and_eq_true] at hf;obtain ⟨h6, h7⟩ := mG hr;have e0 := VR.same vx hf.1.1.1 (q0 X vx h2 hx);have e1 := VO.flat_same (tG h3 hl q1) hf.1.1.2;have e2 := VO.flat_same (tG h4 hh q2) hf.1.2;have e3 := VO.flat_same (tG h5 hm q3) hf.2;refine aW.ofK E ⟨r, hk5, r, ?_, VR.flat r h7⟩ (e := Instr.sliceAt t (ρ x) (lo.map ρ) (hi.map ρ) (mx.map ρ)) rfl;rw [uP h1 sM, e0, e1, e2, e3];exact jX h6 w
 ·cases hc
theorem rR {T : BT Value} {ps : Array (Nat × Operand)} {place : Nat -> Option (Nat × Nat)} {xs : List (Nat × Nat × X)} {vs : List (Nat × Nat × Value)} (hc : cparts place ps.toList = some xs) (hx : Ae T xs vs) (hρ : ∀ x ∈ (ps.toList.map (·.2)).toArray, ∀ X v, cx x = some X -> XV T X v -> VR m v (ρ x)) : PR m place vs (ps.toList.map fun (p : Nat × Operand) => (p.1, ρ p.2)) :=
 MI hc hx (fun p hp x v h => hρ p.2 (by simp; exact ⟨p.1, by simpa using hp⟩) x v h)
theorem No {t : TypeId} {n : Nat} {ps : Array (Nat × Operand)} (hc : compOp P ⟨dst, .buildSlice t n ps, ty, pos, af, gd⟩ = some c) (hρ : Hρ m T ρ (.buildSlice t n ps)) (E : cN P K B m s w) (hk : V6 P T s c k = true) : aW P K B m w k ((execOp ρ ⟨dst, .buildSlice t n ps, ty, pos, af, gd⟩).run P w) := by
 simp only [compOp] at hc;split at hc
 ·rename_i e h1
  split at hc
  ·rename_i i z h2 h3
   split at hc
   ·rename_i xs h4
    obtain ⟨h5, hc⟩ := bU hc;cases hc;simp only [Bool.and_eq_true, Nat.ble_eq] at h5;obtain ⟨⟨⟨h5, h6⟩, h7⟩, h8⟩ := h5;obtain ⟨vs, hv, hk1⟩ := lD (k := fun ps => Bc s e n (n * i.size) (repeatN z.toList n) ps k) hk;have := Nf h1 h2 h3 (by simpa using h6) h7 h8 E (rR h4 hv hρ) (wS h5 hv) hk1;refine aW.of this ?_;show _ = (do pure (Next.value (<- Instr.buildSlice t n ⟨ps.toList.map fun (p : Nat × Operand) => (p.1, ρ p.2)⟩)));rw [<- tH];rfl
   ·cases hc
  ·cases hc
 ·cases hc
theorem Gg {t : TypeId} {ps : Array (Nat × Operand)} (hc : compOp P ⟨dst, .build t ps, ty, pos, af, gd⟩ = some c) (hρ : Hρ m T ρ (.build t ps)) (E : cN P K B m s w) (hk : V6 P T s c k = true) : aW P K B m w k ((execOp ρ ⟨dst, .build t ps, ty, pos, af, gd⟩).run P w) := by
 have he : execOp ρ ⟨dst, .build t ps, ty, pos, af, gd⟩ = (do pure (Next.value (<- Instr.build t ⟨ps.toList.map fun (p : Nat × Operand) => (p.1, ρ p.2)⟩))) := by
  rw [<- tH];rfl
 have hz0 : ∀ {z}, zeroOf P t = some z -> ∃ v, (zeroValue t).run P w = .ok v w /\ v.cells = z := by
  intro z hz;obtain ⟨i, v, hi, hv, hvz, _, _⟩ := dR hz;exact ⟨v, by simp [zeroValue, eC hi, hv], hvz⟩
 simp only [compOp] at hc;split at hc
 ·rename_i z fs h1 h2
  split at hc
  ·rename_i xs h4
   obtain ⟨h5, hc⟩ := bU hc;cases hc;simp only [Bool.and_eq_true, List.all_eq_true] at h5;obtain ⟨vs, hv, hk1⟩ := lD (k := fun ps => oU z.toList ps (vK s k)) hk;refine aW.ofK E (Bk (w := w) h1 (fun cs hf => ?_) (rR h4 hv hρ) (wS h5.1 hv) hk1) he;obtain ⟨v, hz, hvz⟩ := hz0 h1;unfold Instr.build;rw [Sem.run_bind, hz];simp only [Result.andThen_ok];rw [Sem.run_bind, Y5 h2];simp only [Result.andThen_ok];rw [Sem.run_bind, Cx w fs h5.2];simp only [Result.andThen_ok];rw [Gd h5.2, hvz, hf];rfl
  ·cases hc
 ·rename_i z n e h1 h2
  split at hc
  ·rename_i i h3
   split at hc
   ·rename_i xs h4
    obtain ⟨h5, hc⟩ := bU hc;cases hc;obtain ⟨vs, hv, hk1⟩ := lD (k := fun ps => oU z.toList ps (vK s k)) hk;refine aW.ofK E (Bk (w := w) h1 (fun cs hf => ?_) (rR h4 hv hρ) (wS h5 hv) hk1) he;obtain ⟨v, hz, hvz⟩ := hz0 h1;unfold Instr.build;rw [Sem.run_bind, hz];simp only [Result.andThen_ok];rw [Sem.run_bind, Y5 h2];simp only [Result.andThen_ok];rw [Sem.run_bind, bE h3];simp only [Result.andThen_ok];rw [hvz, hf];rfl
   ·cases hc
  ·cases hc
 ·cases hc
end
end Go.Proofs.YtjkdkpckjgaplaaGreat.Ev
namespace Go.Proofs.YtjkdkpckjgaplaaGreat.Ev
open Go Go.RowKit
theorem yX {v : Value} {k : Nat -> Bool} (h : Df v k = true) : ∃ b, v = .map (some b) /\ k b = true := by
 cases v <;> first | (simp [Df] at h; done) | skip
 rename_i r
 cases r with
 | none => cases h
 | some b => exact ⟨b, rfl, h⟩
theorem yY {s : St} {b : Nat} {k : List (Int × Value) -> Bool} (h : F1 s b k = true) : ∃ es, s.h.get b = some (.imap es) /\ k es = true := by
 obtain ⟨o, h1, h2⟩ := mD h;cases o <;> first | exact ⟨_, h1, h2⟩ | cases h2
theorem Fh (a b : Int) : intEq a b = (b == a) := by rw [aB]; exact Bool.beq_comm
theorem vH {m : Mp} {q : Int} {ik : IntKind} : ∀ {es : List (Int × Value)} {l : List MapEntry} (_ : ER m es l) (i : Nat),
 (rL q es = none -> Instr.findNow (.int ik) (.int .i64 q) l i = some none) /\ (∀ v, rL q es = some v -> ∃ j u, Instr.findNow (.int ik) (.int .i64 q) l i = some (some (j, u)) /\ VR m v u)
 | [], l, h, i => by
  have : l = [] := h;subst this;exact ⟨fun _ => rfl, fun v hv => by cases hv⟩
 | e :: es, l, h, i => by
  obtain ⟨f, t, rfl, h2, h3, h4⟩ := h;obtain ⟨g1, g2⟩ := vH (q := q) (ik := ik) h4 (i + 1);have hs : Instr.sameNow (.int ik) (.int .i64 q) f.key = some (intEq e.1 q) := by rw [h2, Fh]; simp [Instr.sameNow]
  have hf : rL q (e :: es) = if intEq e.1 q = true then some e.2 else rL q es := by
   show (@Bool.rec (fun _ => Option Value) (rL q es) (some e.2) (intEq e.1 q)) = _;cases intEq e.1 q <;> rfl
  cases hb : intEq e.1 q with
  | true =>
   rw [hf, hb, if_pos rfl];rw [hb] at hs;refine ⟨fun hn => (by cases hn), fun v hv => ?_⟩;cases hv;exact ⟨i, f.val, by simp [Instr.findNow, hs], h3⟩
  | false =>
   rw [hf, hb, if_neg dE];rw [hb] at hs;exact ⟨fun hn => by simp [Instr.findNow, hs, g1 hn], fun v hv => by obtain ⟨j, u, h5, h6⟩ := g2 v hv; exact ⟨j, u, by simp [Instr.findNow, hs, h5], h6⟩⟩
theorem ER.snoc {m : Mp} {q : Int} {v u : Value} {c : Nat} (hv : VR m v u) : ∀ {es : List (Int × Value)} {l : List MapEntry}, ER m es l -> ER m (OD es [(q, v)]) (l ++ [{ key := .int .i64 q, val := u, born := c }])
 | [], l, h => by
  have : l = [] := h;subst this;exact ⟨_, [], rfl, rfl, hv, rfl⟩
 | e :: es, l, h => by
  obtain ⟨f, t, rfl, h2, h3, h4⟩ := h;exact ⟨f, _, rfl, h2, h3, ER.snoc hv h4⟩
theorem Ai {P : Program} {q : TypeId} {ik : IntKind} (hq : P.underlying q = some (.int ik)) (b : Bool) (n : Int) (w : World) : (Instr.checkKey b 10000 q (.int .i64 n)).run P w = .ok () w := by
 have h : ∀ j, (Instr.checkKey b (j + 1) q (.int .i64 n)).run P w = .ok () w := fun j => by
  unfold Instr.checkKey;simp [Y5 hq]
 exact h 9999
theorem wU {P : Program} {q : TypeId} {ik : IntKind} (hq : P.underlying q = some (.int ik)) {n : Int} {l : List MapEntry} {r : Option (Nat × Value)} (h : Instr.findNow (.int ik) (.int .i64 n) l 0 = some r) (w : World) : (Instr.findKey q (.int .i64 n) l).run P w = .ok r w := by
 simp [Instr.findKey, Y5 hq, h]
section
variable {P : Program} {K : Kp} {B : Nat} {m : Mp} {s : St} {w : World} {T : BT Value} {ρ : Operand -> Value} {k : Value -> St -> Bool} {dst : Option Tmp} {ty : TypeId} {pos : String} {af : Array Edge} {gd : Option (Nat × Bool)} {c : COp}
theorem Gh {t : TypeId} {r : Option Operand} (hc : compOp P ⟨dst, .makeMap t r, ty, pos, af, gd⟩ = some c) (E : cN P K B m s w) (hk : V6 P T s c k = true) : aW P K B m w k ((execOp ρ ⟨dst, .makeMap t r, ty, pos, af, gd⟩).run P w) := by
 cases r with
 | some r => cases hc
 | none =>
  simp only [compOp, Option.some.injEq] at hc;subst hc;have hk1 := eU (k := fun g => iH s (.imap []) (k (.map (some g)))) hk;have hr : OR P (m.put s.n w.heap.size 0) s.n (.imap []) (.map #[] 0) := ⟨#[], 0, rfl, rfl⟩;obtain ⟨s', hk2, hE, hB, hle, _⟩ := oX E 0 hr hk1;refine ⟨_, s', hk2, _, _, .value (.map (some w.heap.size)), ?_, trivial, hle, hE, hB, ?_⟩
  ·simp [execOp, Instr.makeMap]
  ·simp only [VR]; exact ⟨_, _, Mp.put_same _ _ _ _, rfl⟩
theorem Np {t : TypeId} {x y z : Operand} (hc : compOp P ⟨dst, .insert t x y z, ty, pos, af, gd⟩ = some c) (hρ : Hρ m T ρ (.insert t x y z)) (E : cN P K B m s w) (hk : V6 P T s c k = true) : aW P K B m w k ((execOp ρ ⟨dst, .insert t x y z, ty, pos, af, gd⟩).run P w) := by
 simp only [compOp] at hc;split at hc
 ·rename_i q e X Y Z h1 h2 h3 h4
  split at hc
  ·rename_i ik h5
   cases hc;have hk1 : bF T X (fun m => bF T Y (fun x => bF T Z (fun v => OE s m x v (k undef)))) = true := hk;obtain ⟨va, ha, hk2⟩ := Q4 hk1;obtain ⟨vb, hb, hk3⟩ := Q4 hk2;obtain ⟨vd, hd, hk4⟩ := Q4 hk3;have ra := hρ x (by simp [Op.operands]) X va h2 ha;have rb := hρ y (by simp [Op.operands]) Y vb h3 hb;have rd := hρ z (by simp [Op.operands]) Z vd h4 hd;obtain ⟨b, rfl, hk5⟩ := yX hk4;rcases tB hk5 with ⟨i, n, rfl, hk6⟩ | hf
   rotate_left
   ·cases hf
   obtain ⟨h6, hk7⟩ := Z5 hk6;have := gZ h6;subst this;obtain ⟨es, h7, hk8⟩ := yY hk7;simp only [VR] at ra rb;obtain ⟨gx, gy, hm, ea⟩ := ra;obtain ⟨o', ho, a, cl, rfl, her⟩ := E.obj b gx gy _ hm h7;cases hfl : rL n es with
   | some v => rw [hfl] at hk8; cases hk8
   | none =>
    rw [hfl] at hk8;obtain ⟨h', hk9, _, hg⟩ := dD hk8;have hfn := (vH (ik := ik) her 0).1 hfl;have hlow : B <= gx /\ gx < w.heap.size := ⟨E.own hm h7 sM, (E.low b gx gy hm).2⟩;have hE : cN P K B m ⟨h', s.n⟩ { w with heap := w.heap.setIfInBounds gx (.map (a.push { key := .int .i64 n, val := ρ z, born := cl }) (cl + 1)) } := by
     refine E.put (o' := .map (a.push { key := .int .i64 n, val := ρ z, born := cl }) (cl + 1)) hm h7 sM hg sM (by simp [hlow.2]) (fun j hj => by simp [Array.getElem?_setIfInBounds, Ne.symm hj]) ⟨_, _, rfl, ?_⟩;rw [Array.toList_push];exact ER.snoc rd her
    refine ⟨undef, _, hk9, m, _, .skip, ?_, trivial, Mp.le_refl m, hE, oW rfl rfl rfl sM (fun j hj => by simp [Array.getElem?_setIfInBounds]; intro e; omega), VR.flat undef rfl⟩;simp [execOp, ea, rb, Instr.mapUpdate, Y5 h1, MapKept.run_getObj_map ho, Ai h5, wU h5 hfn, MapKept.run_setObj_map _ ho]
  ·cases hc
 ·cases hc
theorem Jk {t : TypeId} {x y : Operand} {ok : Bool} (hc : compOp P ⟨dst, .lookup t x y ok, ty, pos, af, gd⟩ = some c) (hρ : Hρ m T ρ (.lookup t x y ok)) (E : cN P K B m s w) (hk : V6 P T s c k = true) : aW P K B m w k ((execOp ρ ⟨dst, .lookup t x y ok, ty, pos, af, gd⟩).run P w) := by
 simp only [compOp] at hc;split at hc
 ·rename_i q e X Y h1 h2 h3
  split at hc
  ·rename_i ik inf h5 h6
   split at hc
   ·rename_i z hz
    obtain ⟨hf, hc⟩ := bU hc;cases hc;have hk1 : bF T X (fun m => bF T Y (fun x => MG s z ok m x k)) = true := hk;obtain ⟨va, ha, hk2⟩ := Q4 hk1;obtain ⟨vb, hb, hk3⟩ := Q4 hk2;have ra := hρ x (by simp [Op.operands]) X va h2 ha;have rb := hρ y (by simp [Op.operands]) Y vb h3 hb;obtain ⟨b, rfl, hk5⟩ := yX hk3;rcases tB hk5 with ⟨i, n, rfl, hk6⟩ | hf
    rotate_left
    ·cases hf
    obtain ⟨h6', hk7⟩ := Z5 hk6;have := gZ h6';subst this;obtain ⟨es, h7, hk8⟩ := yY hk7;simp only [VR] at ra rb;obtain ⟨gx, gy, hm, ea⟩ := ra;obtain ⟨o', ho, a, cl, rfl, her⟩ := E.obj b gx gy _ hm h7;cases hfl : rL n es with
    | none =>
     rw [hfl] at hk8;have hfn := (vH (ik := ik) her 0).1 hfl;refine aW.keep E hk8 (u := yP ok z false) ?_ ?_
     ·cases ok
      ·exact VR.flat z hf
      ·show VR m (.tuple #[z, .bool false]) (.tuple #[z, .bool false])
       exact VR.flat _ (by simp [flat, flatA, flatL, hf])
     ·cases ok <;> simp [execOp, ea, rb, Instr.lookup, Y5 h1, MapKept.run_getObj_map ho, Ai h5, wU h5 hfn, eO h6 hz, yP]
    | some v =>
     rw [hfl] at hk8;obtain ⟨j, u, hfn, hvu⟩ := (vH (ik := ik) her 0).2 v hfl;refine aW.keep E hk8 (u := yP ok u true) ?_ ?_
     ·cases ok
      ·exact hvu
      ·show VR m (.tuple #[v, .bool true]) (.tuple #[u, .bool true])
       simp only [VR, AR];exact ⟨_, rfl, _, rfl, u, [.bool true], rfl, hvu, .bool true, [], rfl, by simp only [VR], rfl⟩
     ·cases ok <;> simp [execOp, ea, rb, Instr.lookup, Y5 h1, MapKept.run_getObj_map ho, Ai h5, wU h5 hfn, yP]
   ·cases hc
  ·cases hc
 ·cases hc
end
end Go.Proofs.YtjkdkpckjgaplaaGreat.Ev
namespace Go.Proofs.YtjkdkpckjgaplaaGreat.Ev
open Go Go.RowKit
section
variable {P : Program} {K : Kp} {B : Nat} {m : Mp} {s : St} {w : World} {T : BT Value} {ρ : Operand -> Value} {k : Value -> St -> Bool} {dst : Option Tmp} {ty : TypeId} {pos : String} {af : Array Edge} {gd : Option (Nat × Bool)} {c : COp}
theorem Do (b : Builtin) (args : Array Operand) (ts : Array TypeId) : ∃ cs, execOp ρ ⟨dst, .call ⟨.builtin b, args, ts⟩, ty, pos, af, gd⟩ = builtin b ts ty cs ⟨args.toList.map ρ⟩ :=
 ⟨args.map fun | .const _ => true | _ => false, by rw [<- rP]; rfl⟩
theorem Fi {ts : Array TypeId} {d : TypeDesc} {j : Nat} (h : (ts[j]?).bind P.underlying = some d) : ∃ t0, ts[j]? = some t0 /\ P.underlying t0 = some d := by
 cases h0 : ts[j]? with
 | none => rw [h0] at h; cases h
 | some t0 => rw [h0] at h; exact ⟨t0, rfl, h⟩
theorem Aj (E : cN P K B m s w) {b : Builtin} {args : Array Operand} {ts : Array TypeId} {xs : List X} (hb : ∀ cs l, builtin b ts ty cs l = builtin b ts ty #[] l) (hxs : cxs args.toList = some xs) (hρ : Hρ m T ρ (.call ⟨.builtin b, args, ts⟩))
 (hk : gF T xs (fun l => oK s k (evBi P b ts ty l)) = true) : aW P K B m w k ((execOp ρ ⟨dst, .call ⟨.builtin b, args, ts⟩, ty, pos, af, gd⟩).run P w) := by
 obtain ⟨vs, hv, hk1⟩ := kU hk;obtain ⟨r, hr, hk2⟩ := nI hk1;unfold evBi at hr;obtain ⟨hf, hr⟩ := bU hr;obtain ⟨h1, h2⟩ := mG hr;have e1 := LR.same vs hf (wT hxs hv (fun x hx X v => hρ x (by simp only [Op.operands, Call.operands]; simpa using hx) X v));obtain ⟨cs, e2⟩ := Do (ρ := ρ) (dst := dst) (ty := ty) (pos := pos) (af := af) (gd := gd) b args ts;have h3 : pureVal P (builtin b ts ty #[] ⟨vs⟩) = some (.value r) := by
  cases hp : pureVal P (builtin b ts ty #[] ⟨vs⟩) with
  | none => rw [hp] at h1; cases h1
  | some n =>
   rw [hp] at h1;cases n with
   | value v => simp only [nextV, Option.some.injEq] at h1; rw [h1]
   | _ => cases h1
 refine aW.keep E hk2 (VR.flat r h2) ?_;rw [e2, e1, hb];exact jX h3 w
theorem aW.bi {e : Sem Value} {b : Builtin} {args : Array Operand} {ts : Array TypeId} (h : ∃ v s', k v s' = true /\ ∃ m' w' u, e.run P w = .ok u w' /\ m.le m' /\ cN P K B m' s' w' /\ Below B w w' /\ VR m' v u)
 (he : ∀ cs, builtin b ts ty cs ⟨args.toList.map ρ⟩ = (do pure (.value (<- e)))) : aW P K B m w k ((execOp ρ ⟨dst, .call ⟨.builtin b, args, ts⟩, ty, pos, af, gd⟩).run P w) := by
 obtain ⟨cs, e2⟩ := Do (ρ := ρ) (dst := dst) (ty := ty) (pos := pos) (af := af) (gd := gd) b args ts;exact aW.of h (by rw [e2, he])
theorem OT {b : Builtin} {args : Array Operand} {ts : Array TypeId} (hc : compOp P ⟨dst, .call ⟨.builtin b, args, ts⟩, ty, pos, af, gd⟩ = some c) (hρ : Hρ m T ρ (.call ⟨.builtin b, args, ts⟩)) (E : cN P K B m s w) (hk : V6 P T s c k = true) :
 aW P K B m w k ((execOp ρ ⟨dst, .call ⟨.builtin b, args, ts⟩, ty, pos, af, gd⟩).run P w) := by
 have ho : ∀ x ∈ args.toList, ∀ X v, cx x = some X -> XV T X v -> VR m v (ρ x) := fun x hx X v => hρ x (by simp only [Op.operands, Call.operands]; simpa using hx) X v
 simp only [compOp] at hc;split at hc
 ·-- len
  rename_i x hl
  split at hc
  ·rename_i e h1
   obtain ⟨X, h2, rfl⟩ := Option.map_eq_some_iff.1 hc;obtain ⟨t0, h3, h4⟩ := Fi h1;obtain ⟨v, hv, hk1⟩ := Q4 (k := fun x => eK x (fun n _ => k (.int .i64 (.ofNat n)) s) (fun _ _ n _ => k (.int .i64 (.ofNat n)) s)) hk;obtain ⟨r, hk2, hr, hv2⟩ := Na (w := w) (ty := ty) h3 h4 (ho x (by rw [hl]; simp) X v h2 hv) hk1;exact aW.bi (e := Builtin.len_ ts ty #[ρ x]) ⟨r, s, hk2, m, w, r, hr, Mp.le_refl m, E, Below.refl B w, hv2⟩ (fun cs => by rw [hl]; rfl)
  ·rename_i h1
   obtain ⟨X, h2, rfl⟩ := Option.map_eq_some_iff.1 hc;exact Aj E (fun cs l => rfl) (xs := [X]) (by rw [hl]; simp [cxs, h2]) hρ hk
  ·cases hc
 ·-- cap
  rename_i x hl
  split at hc
  ·rename_i e h1
   obtain ⟨X, h2, rfl⟩ := Option.map_eq_some_iff.1 hc;obtain ⟨t0, h3, h4⟩ := Fi h1;obtain ⟨v, hv, hk1⟩ := Q4 (k := fun x => oK s k (evCap x)) hk;obtain ⟨r, hr, hk2⟩ := nI hk1;obtain ⟨hr2, hv2⟩ := Nb (w := w) (ty := ty) h3 h4 (ho x (by rw [hl]; simp) X v h2 hv) hr;exact aW.bi (e := Builtin.cap_ ts ty #[ρ x]) ⟨r, s, hk2, m, w, r, hr2, Mp.le_refl m, E, Below.refl B w, hv2⟩ (fun cs => by rw [hl]; rfl)
  ·cases hc
 ·-- append
  rename_i x y hl
  split at hc
  ·rename_i e d X Y h1 h2 h3 h4
   split at hc
   ·rename_i i z h5 h6
    obtain ⟨h7, hc⟩ := bU hc;simp only [Bool.and_eq_true, Bool.not_eq_true'] at h7;obtain ⟨t0, g1, g2⟩ := Fi h1;obtain ⟨t1, g3, g4⟩ := Fi h2;have hz : z.size = i.size := by simpa using h7.1
    have h0 : i.size ≠ 0 := by
     intro e;have := h7.2;rw [e] at this;cases this
    have go : ∀ ints, ((ints = true /\ ∃ q, d = .int q) ∨ (ints = false /\ ∃ q, d = .slice q)) -> V6 P T s (.app e i.size i.bytes z.toList ints X Y) k = true -> aW P K B m w k ((execOp ρ ⟨dst, .call ⟨.builtin .append, args, ts⟩, ty, pos, af, gd⟩).run P w) := by
     intro ints hd hk;obtain ⟨v, hv, hk1⟩ := Q4 (k := fun x => bF T Y (fun y => jC s e i.size i.bytes z.toList ints x y k)) hk;obtain ⟨u, hu, hk2⟩ := Q4 hk1;exact aW.bi (e := Builtin.append_ ts ty #[ρ x, ρ y]) (Nd g1 g2 g3 g4 hd h5 h6 hz h0 E (ho x (by rw [hl]; simp) X v h3 hv) (ho y (by rw [hl]; simp) Y u h4 hu) hk2) (fun cs => by rw [hl]; rfl)
    split at hc
    ·cases hc; exact go true (.inl ⟨rfl, _, rfl⟩) hk
    ·cases hc; exact go false (.inr ⟨rfl, _, rfl⟩) hk
    ·cases hc
   ·cases hc
  ·cases hc
 ·-- copy
  rename_i x y hl
  split at hc
  ·rename_i e X Y h1 h3 h4
   obtain ⟨i, h5, rfl⟩ := Option.map_eq_some_iff.1 hc;obtain ⟨t0, g1, g2⟩ := Fi h1;obtain ⟨v, hv, hk1⟩ := Q4 (k := fun x => bF T Y (fun y => Dk s i.size x y k)) hk;obtain ⟨u, hu, hk2⟩ := Q4 hk1;obtain ⟨r, s', hk3, w', hr, hE, hB, hv2⟩ := Jc (ty := ty) g1 g2 h5 E (ho x (by rw [hl]; simp) X v h3 hv) (ho y (by rw [hl]; simp) Y u h4 hu) hk2;exact aW.bi (e := Builtin.copy_ ts ty #[ρ x, ρ y]) ⟨r, s', hk3, m, w', r, hr, Mp.le_refl m, hE, hB, hv2⟩ (fun cs => by rw [hl]; rfl)
  ·cases hc
 ·-- clear
  rename_i x hl
  split at hc
  ·rename_i e X h1 h3
   split at hc
   ·rename_i i z h5 h6
    obtain ⟨h7, hc⟩ := bU hc;cases hc;obtain ⟨t0, g1, g2⟩ := Fi h1;obtain ⟨v, hv, hk1⟩ := Q4 (k := fun x => Ab s i.size z.toList x k) hk;obtain ⟨s', hk3, w', hr, hE, hB⟩ := F8 (ty := ty) g1 g2 h5 h6 (by simpa using h7) E (ho x (by rw [hl]; simp) X v h3 hv) hk1;exact aW.bi (e := Builtin.clear_ ts ty #[ρ x]) ⟨_, s', hk3, m, w', _, hr, Mp.le_refl m, hE, hB, VR.flat _ rfl⟩ (fun cs => by rw [hl]; rfl)
   ·cases hc
  ·cases hc
 ·rename_i hn1
  obtain ⟨xs, h2, rfl⟩ := Option.map_eq_some_iff.1 hc;exact Aj E (fun cs l => rfl) h2 hρ hk
 ·obtain ⟨xs, h2, rfl⟩ := Option.map_eq_some_iff.1 hc
  exact Aj E (fun cs l => rfl) h2 hρ hk
 ·cases hc
def Cy : Op -> Bool
 | .call { callee := .value _, .. } => false
 | _ => true
theorem Nq {op : Op} (hn : Cy op = true) (hc : compOp P ⟨dst, op, ty, pos, af, gd⟩ = some c) (hρ : Hρ m T ρ op) (E : cN P K B m s w) (hk : V6 P T s c k = true) : aW P K B m w k ((execOp ρ ⟨dst, op, ty, pos, af, gd⟩).run P w) := by
 cases op with
 | move x => exact Dn (.inl rfl) hc hρ E hk
 | assign x => exact Dn (.inr rfl) hc hρ E hk
 | pick => exact Jf hc hρ E hk
 | alloc => exact Ge hc E hk
 | box => exact Ng hc hρ E hk
 | build => exact Gg hc hρ E hk
 | buildSlice => exact No hc hρ E hk
 | load => exact Jg hc hρ E hk
 | store => exact Gf hc hρ E hk
 | nilCheck => exact Jh hc hρ E hk
 | binOp => exact Nh hc hρ E hk
 | unOp => exact ON hc hρ E hk
 | convert => exact Ji hc hρ E hk
 | makeInterface => exact Jj hc hρ E hk
 | makeFunc fn => cases fn with
  | func f => exact OO hc hρ E hk
  | _ => cases hc
 | makeSlice => exact Nj hc hρ E hk
 | slice => exact Nm hc hρ E hk
 | fieldAddr => exact OP hc hρ E hk
 | field => exact Nk hc hρ E hk
 | indexAddr => exact OQ hc hρ E hk
 | index => exact OS hc hρ E hk
 | typeAssert => exact Ni hc hρ E hk
 | extract => exact Nl hc hρ E hk
 | makeMap => exact Gh hc E hk
 | insert => exact Np hc hρ E hk
 | lookup => exact Jk hc hρ E hk
 | call cl =>
  obtain ⟨ce, args, ts⟩ := cl;cases ce with
  | builtin b => exact OT hc hρ E hk
  | value f => cases hn
  | invoke => cases hc
 | _ => cases hc
end
end Go.Proofs.YtjkdkpckjgaplaaGreat.Ev
