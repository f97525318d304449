import Derived.Test.YtoeklhdklcpllaaGreatZe11
import Derived.Test.YtoeklhdklcpllaaGreatZe10
set_option linter.unusedVariables false
set_option linter.unusedSimpArgs false
namespace Go.Proofs.YtoeklhdklcpllaaGreat
open Go Go.RowKit
namespace Ev
def posS (d : Nat -> Int) (N : Nat) : Int := tot (fun v => max (d v) 0) N
theorem dueN_at {due : Nat -> Int} {a b v : Nat} {n : Int} (hab : a ≠ b) : dueN due a b n v = due v + (if a = v then n else 0) - (if b = v then n else 0) := by
 unfold dueN;by_cases c1 : v = b
 ·subst c1
  rw [V2, Q1 (fun e => hab e.symm), if_neg hab, if_pos rfl]; omega
 ·rw [Q1 c1, if_neg (show ¬ b = v from fun e => c1 e.symm)]
  by_cases c2 : v = a
  ·subst c2; rw [V2, if_pos rfl]; omega
  ·rw [Q1 c2, if_neg (show ¬ a = v from fun e => c2 e.symm)]; omega
theorem dueN_tot {due : Nat -> Int} {a b N : Nat} {n : Int} (hab : a ≠ b) (ha : a < N) (hb : b < N) : tot (dueN due a b n) N = tot due N := by
 rw [U6 (fun v _ => dueN_at hab), tot_sub, tot_add, tot_one (c := fun _ => n) ha, tot_one (c := fun _ => n) hb]; omega
theorem dueN_pos {due : Nat -> Int} {a b N : Nat} {n : Int} (hab : a ≠ b) (hb : b < N) (hn : 0 <= n) (h1 : due a + n <= 0) (h2 : n <= due b) : posS (dueN due a b n) N = posS due N - n := by
 unfold posS;have e : ∀ v, v < N -> max (dueN due a b n v) 0 = max (due v) 0 - (if b = v then n else 0) := fun v _ => by
  rw [dueN_at hab];by_cases c1 : b = v
  ·subst c1; rw [if_pos rfl, if_neg hab]; omega
  ·rw [if_neg c1]
   by_cases c2 : a = v
   ·subst c2; rw [if_pos rfl]; omega
   ·rw [if_neg c2]; omega
 rw [U6 e, tot_sub, tot_one (c := fun _ => n) hb]
theorem Wy.dn {ts : List (List Int)} {N : Nat} {t p : Nat -> Int} {S : Nat -> Prop} {g : Tp} {v0 : Nat} {rk : Nat -> Nat} {w : Nat} (h : Wy ts N t p S g v0 rk w) : ∀ {d a : Nat}, a + d + 1 <= w -> Z2 rk v0 (cnB g.lf N) (chn g v0 (a + d + 1)) < Z2 rk v0 (cnB g.lf N) (chn g v0 a)
 | 0, a, hw => h.rk a (by omega)
 | d + 1, a, hw => by
  have h1 := Wy.dn h (d := d) (a := a) (by omega);have h2 := h.rk (a + d + 1) (by omega);have h3 : Z2 rk v0 (cnB g.lf N) (chn g v0 (a + (d + 1) + 1)) < Z2 rk v0 (cnB g.lf N) (chn g v0 (a + d + 1)) := h2;omega
theorem Wy.ne {ts : List (List Int)} {N : Nat} {t p : Nat -> Int} {S : Nat -> Prop} {g : Tp} {v0 : Nat} {rk : Nat -> Nat} {w a b : Nat} (h : Wy ts N t p S g v0 rk w) (hab : a < b) (hb : b <= w) : chn g v0 a ≠ chn g v0 b := fun e => by
 have h1 := h.dn (d := b - a - 1) (a := a) (by omega);rw [show a + (b - a - 1) + 1 = b by omega, e] at h1;exact absurd h1 (Nat.lt_irrefl _)
theorem Wy.ends {ts : List (List Int)} {N : Nat} {t p : Nat -> Int} {S : Nat -> Prop} {g : Tp} {v0 : Nat} {rk : Nat -> Nat} {w j : Nat} (h : Wy ts N t p S g v0 rk w) (hj : j < w) : (la ts (g.cm (chn g v0 j)).lim = chn g v0 j /\ lb ts (g.cm (chn g v0 j)).lim = chn g v0 (j + 1)) ∨ (lb ts (g.cm (chn g v0 j)).lim = chn g v0 j /\ la ts (g.cm (chn g v0 j)).lim = chn g v0 (j + 1)) := by
 obtain ⟨r1, r2, _⟩ := h.rs j hj;rcases r1.wh with ⟨_, w1, w2, _⟩ | ⟨_, w1, w2, _⟩
 ·exact .inr ⟨w2.symm.trans r2, w1⟩
 ·exact .inl ⟨w2.symm.trans r2, w1⟩
theorem Wy.lims {ts : List (List Int)} {N : Nat} {t p : Nat -> Int} {S : Nat -> Prop} {g : Tp} {v0 : Nat} {rk : Nat -> Nat} {w : Nat} (h : Wy ts N t p S g v0 rk w) {a b : Nat} (hab : a < b) (hb : b < w) : (g.cm (chn g v0 a)).lim ≠ (g.cm (chn g v0 b)).lim := fun e => by
 have h1 := h.ends (j := a) (by omega);have h2 := h.ends hb;rw [<- e] at h2;have n1 := h.ne hab (by omega);have n2 := h.ne (show a < b + 1 by omega) (by omega);rcases h1 with ⟨p1, _⟩ | ⟨p1, _⟩ <;> rcases h2 with ⟨q1, q2⟩ | ⟨q1, q2⟩
 ·exact n1 (p1.symm.trans q1)
 ·exact n2 (p1.symm.trans q2)
 ·exact n2 (p1.symm.trans q2)
 ·exact n1 (p1.symm.trans q1)
theorem tw_one {t : Nat -> Int} {n : Int} {σ : Nat -> Cm} {L i : Nat} (hd : ∀ a b, a < b -> b < L -> (σ a).lim ≠ (σ b).lim) (hn : 0 <= n) : ∀ {m : Nat}, m <= L -> twT t n σ m i <= t i + n /\ ((∀ a, a < m -> (σ a).lim ≠ i) -> twT t n σ m i = t i)
 | 0, _ => ⟨by show t i <= _; omega, fun _ => rfl⟩
 | m + 1, hm => by
  obtain ⟨h1, h2⟩ := tw_one hd hn (m := m) (by omega) (t := t) (i := i);show Z2 _ _ _ i <= _ /\ (_ -> Z2 _ _ _ i = _);by_cases e : i = (σ m).lim
  ·have h3 := h2 (fun a ha q => hd a m ha (by omega) (q.trans e))
   rw [e, V2];rw [e] at h3;refine ⟨?_, fun q => absurd rfl (q m (by omega))⟩;split <;> omega
  ·rw [Q1 e]
   exact ⟨h1, fun q => h2 (fun a ha => q a (by omega))⟩
theorem Wy.stp {ts : List (List Int)} {N : Nat} {t p : Nat -> Int} {S : Nat -> Prop} {g : Tp} {v0 : Nat} {rk : Nat -> Nat} {L : Nat} (h : Wy ts N t p S g v0 rk L) : ∀ a b, a < b -> b < L -> (stp' g v0 L a).lim ≠ (stp' g v0 L b).lim := fun a b hab hb e => h.lims (a := L - 1 - b) (b := L - 1 - a) (by omega) (by omega) e.symm
structure Lv (ls : List (List Int)) (M : Nat) (w due t p : Nat -> Int) (P base : Int) : Prop where
 ld : Ld (ls ++ Y1 M) (M + 1) w due t p
 dv : ∀ i, i < (ls ++ Y1 M).length -> P ∣ t i
 sm : tot due (M + 1) = 0
 tm : tot t (ls ++ Y1 M).length + 64 * posS due (M + 1) <= 230400000000000
 ps : ∀ v, v < M + 1 -> due v <= -P -> p v <= base
 pu : ∀ v, v < M + 1 -> p v <= base + 2560002
 pl : ∀ v, v < M + 1 -> -1300000 <= p v
 te : ∀ i, i < (ls ++ Y1 M).length -> t i + posS due (M + 1) <= 3600000000000
theorem kpt_of {ls : List (List Int)} {M : Nat} {w due t p : Nat -> Int} (hl : lmB (M : Int) ls = true) (h : Ld (ls ++ Y1 M) (M + 1) w due t p) : Kpt (ls ++ Y1 M) (M + 1) t p :=
 ⟨fun i hi => by obtain ⟨a, b, c, d, e, _⟩ := lg_tl hl i hi; exact ⟨a, b, c, d, e⟩, h.nn, h.st, h.ti⟩
theorem near_all {ls : List (List Int)} {M : Nat} {t p : Nat -> Int} (k : Kpt (ls ++ Y1 M) (M + 1) t p) : ∀ v, v < M + 1 -> p v <= p 0 + 1280001 /\ p 0 <= p v + 1280001 := fun v hv => by
 by_cases z : v = 0
 ·rw [z]; omega
 ·have hlen : (ls ++ Y1 M).length = ls.length + 2 * M := by rw [List.length_append, toll_len]
  obtain ⟨t1, t2⟩ := tl_up (ls := ls) (show v - 1 < M by omega);obtain ⟨a1, a2, a3⟩ := fld t1;obtain ⟨b1, b2, b3⟩ := fld t2;have h1 := k.st (ls.length + 2 * (v - 1)) (by omega);have h2 := k.st (ls.length + 2 * (v - 1) + 1) (by omega);rw [a1, a2, a3, show v - 1 + 1 = v by omega] at h1;rw [b1, b2, b3, show v - 1 + 1 = v by omega] at h2;omega
theorem near_two {ls : List (List Int)} {M : Nat} {t p : Nat -> Int} (k : Kpt (ls ++ Y1 M) (M + 1) t p) {u v : Nat} (hu : u < M + 1) (hv : v < M + 1) : p v <= p u + 2560002 := by
 have h1 := near_all k u hu;have h2 := near_all k v hv;omega
def nmV (t : Nat -> Int) (σ : Nat -> Cm) (z : Int) : Nat -> Int
 | 0 => z
 | m + 1 => if (σ m).bk = true then min (nmV t σ z m) (t (σ m).lim) else nmV t σ z m
theorem nm_le {t : Nat -> Int} {σ : Nat -> Cm} {z : Int} : ∀ {m : Nat}, nmV t σ z m <= z /\ ∀ j, j < m -> (σ j).bk = true -> nmV t σ z m <= t (σ j).lim
 | 0 => ⟨Int.le_refl _, fun j hj => absurd hj (Nat.not_lt_zero j)⟩
 | m + 1 => by
  obtain ⟨h1, h2⟩ := nm_le (t := t) (σ := σ) (z := z) (m := m);show (if (σ m).bk = true then min (nmV t σ z m) (t (σ m).lim) else nmV t σ z m) <= z /\ ∀ j, j < m + 1 -> (σ j).bk = true -> (if (σ m).bk = true then min (nmV t σ z m) (t (σ m).lim) else nmV t σ z m) <= t (σ j).lim;by_cases c : (σ m).bk = true
  ·rw [if_pos c]
   refine ⟨by omega, fun j hj hb => ?_⟩;by_cases e : j = m
   ·rw [e]; omega
   ·have := h2 j (by omega) hb; omega
  ·rw [if_neg c]
   refine ⟨h1, fun j hj hb => ?_⟩;by_cases e : j = m
   ·rw [e] at hb; exact absurd hb c
   ·exact h2 j (by omega) hb
theorem nm_ge {t : Nat -> Int} {σ : Nat -> Cm} {z P : Int} (hz : P <= z) : ∀ {m : Nat}, (∀ j, j < m -> (σ j).bk = true -> P <= t (σ j).lim) -> P <= nmV t σ z m
 | 0, _ => hz
 | m + 1, h => by
  have ih := nm_ge hz (t := t) (σ := σ) (m := m) (fun j hj => h j (by omega));show P <= (if (σ m).bk = true then min (nmV t σ z m) (t (σ m).lim) else nmV t σ z m);split
  ·have := h m (by omega) (by assumption); omega
  ·exact ih
def mvV (x P : Int) : Int := x - x.tmod P
theorem mv_bd {x P : Int} (hP : 0 < P) (hx : P <= x) : P ∣ mvV x P /\ P <= mvV x P /\ mvV x P <= x := by
 unfold mvV;have h1 : 0 <= x.tmod P := Int.tmod_nonneg P (by omega);have h2 : x.tmod P < P := Int.tmod_lt_of_pos x hP;have h3 := Int.mul_tdiv_add_tmod x P;have hd : P ∣ x - x.tmod P := ⟨x.tdiv P, by omega⟩;refine ⟨hd, ?_, by omega⟩;exact Int.le_of_dvd (by omega) hd
theorem posS_nn {d : Nat -> Int} {N : Nat} : 0 <= posS d N := tot_nn (fun v _ => by show 0 <= max (d v) 0; omega)
theorem Lv.move {ls : List (List Int)} {M : Nat} {w due t p : Nat -> Int} {P base : Int} {g : Tp} {v0 : Nat} {rk : Nat -> Nat} {L : Nat} {U : Int} (hl : lmB (M : Int) ls = true) (hM : M <= 64) (hP : 0 < P) (h : Lv ls M w due t p P base) (hj : Dj (ls ++ Y1 M) (M + 1) t p (fun v => due v <= -P) U g rk) (hv : v0 < M + 1) (hv2 : g.lf v0 = false) (hmin : ∀ v, v < M + 1 -> g.lf v = false -> g.pr v0 <= g.pr v) (hd : P <= due v0)
 (hw : Wy (ls ++ Y1 M) (M + 1) t p (fun v => due v <= -P) g v0 rk L) (hfr : (g.cm (chn g v0 L)).fr = -1) :
 0 < L /\ L <= 64 /\ chn g v0 L ≠ v0 /\ due (chn g v0 L) <= -P /\
 P <= nmV t (stp' g v0 L) (min (-(due (chn g v0 L))) (due v0)) L /\
 Lv ls M w (dueN due (chn g v0 L) v0 (mvV (nmV t (stp' g v0 L) (min (-(due (chn g v0 L))) (due v0)) L) P)) (twT t (mvV (nmV t (stp' g v0 L) (min (-(due (chn g v0 L))) (due v0)) L) P) (stp' g v0 L) L) (ptN p g v0) P base /\
 posS (dueN due (chn g v0 L) v0 (mvV (nmV t (stp' g v0 L) (min (-(due (chn g v0 L))) (due v0)) L) P)) (M + 1) < posS due (M + 1) := by
 have k := kpt_of hl h.ld;have hlt := hw.lt L (Nat.le_refl _);have hS : due (chn g v0 L) <= -P := by
  rcases hj.cam _ hlt (hw.fin L (Nat.le_refl _)) with q | ⟨u, _, _, u3, _⟩
  ·exact q
  ·have := u3.fr; omega
 have hne : chn g v0 L ≠ v0 := fun e => by rw [e] at hS; omega
 have hL0 : 0 < L := by
  refine Nat.pos_of_ne_zero (fun z => hne ?_);rw [z]; rfl
 have hL : L <= 64 := by
  have h1 := hw.rank (Nat.le_refl L);have h2 := cnB_lt hv2 hv;omega
 have hback : ∀ m, m < L -> (stp' g v0 L m).bk = true -> P <= t (stp' g v0 L m).lim := fun m hm hb => by
  obtain ⟨r1, _, _⟩ := hw.rs (L - 1 - m) (by omega);have h4 := (r1.wh.resolve_left (fun z => by have : (stp' g v0 L m).bk = false := z.1; rw [this] at hb; cases hb)).2.2.2.2;exact Int.le_of_dvd h4 (h.dv _ r1.lt)
 have hP2 := nm_ge (t := t) (σ := stp' g v0 L) (z := min (-(due (chn g v0 L))) (due v0)) (P := P) (by omega) (m := L) hback;obtain ⟨n1, n2⟩ := nm_le (t := t) (σ := stp' g v0 L) (z := min (-(due (chn g v0 L))) (due v0)) (m := L);obtain ⟨m1, m2, m3⟩ := mv_bd hP hP2;have hps := fun n hn hn1 hn2 => dueN_pos (due := due) (a := chn g v0 L) (b := v0) (N := M + 1) (n := n) hne hv hn hn1 hn2
 refine ⟨hL0, hL, hne, hS, hP2, ?_, ?_⟩
 ·obtain ⟨l1, l2⟩ := moved_ld (L := L) (n := mvV (nmV t (stp' g v0 L) (min (-(due (chn g v0 L))) (due v0)) L) P) k h.ld hj hv hv2 hmin hw (by omega) (fun m hm hb => by have := n2 m hm hb; omega) hne
  have src : ∀ v, v < M + 1 -> due v <= -P -> ptN p g v0 v = p v := fun v hv' hs => by
   unfold ptN;have h1 := (hj.src v hv' hs).1;have h2 := hj.pos v0 hv;omega
  have hf := src _ hlt hS;have hfb := h.ps _ hlt hS;refine ⟨l1, tw_dv m1 h.dv, ?_, ?_, fun v hv' hs => ?_, fun v hv' => ?_, fun v hv' => ?_, fun i hi => ?_⟩
  ·rw [dueN_tot hne hlt hv]; exact h.sm
  ·have h1 := tw_sum (ts := ls ++ Y1 M) (t := t) (n := mvV (nmV t (stp' g v0 L) (min (-(due (chn g v0 L))) (due v0)) L) P) (σ := stp' g v0 L) (K := (ls ++ Y1 M).length) (by omega) (m := L) (fun j hj' => (hw.rs (L - 1 - j) (by omega)).1.lt)
   have h2 := hps (mvV (nmV t (stp' g v0 L) (min (-(due (chn g v0 L))) (due v0)) L) P) (by omega) (by omega) (by omega);rw [h2];have h3 := h.tm;have h4 := Int.mul_le_mul_of_nonneg_left (show (L : Int) <= 64 by omega) (show 0 <= mvV (nmV t (stp' g v0 L) (min (-(due (chn g v0 L))) (due v0)) L) P by omega);omega
  ·have hs' : due v <= -P := by
    rw [dueN_at hne] at hs;by_cases c1 : v0 = v
    ·subst c1; rw [if_neg hne, if_pos rfl] at hs; omega
    ·rw [if_neg c1] at hs
     split at hs <;> omega
   rw [src v hv' hs']; exact h.ps v hv' hs'
  ·have := near_two l2 hlt hv'
   omega
  ·have h1 := h.pl v hv'
   have h2 := hj.pos v hv';have h3 := hj.pos v0 hv;unfold ptN; omega
  ·have h1 := (tw_one (t := t) (n := mvV (nmV t (stp' g v0 L) (min (-(due (chn g v0 L))) (due v0)) L) P) (i := i) hw.stp (by omega) (Nat.le_refl L)).1
   have h2 := hps (mvV (nmV t (stp' g v0 L) (min (-(due (chn g v0 L))) (due v0)) L) P) (by omega) (by omega) (by omega);have h3 := h.te i hi;rw [h2]; omega
 ·rw [hps _ (by omega) (by omega) (by omega)]; omega
theorem Lv.done {ls : List (List Int)} {M : Nat} {w due t p : Nat -> Int} {base : Int} {g : Tp} {rk : Nat -> Nat} {U : Int} (hl : lmB (M : Int) ls = true) (hM : M <= 64) (h : Lv ls M w due t p 1 base) (hb : -1300000 <= base /\ base <= 100000000) (hj : Dj (ls ++ Y1 M) (M + 1) t p (fun v => due v <= -1) U g rk) (hall : ∀ v, v < M + 1 -> g.lf v = false -> g.pr v = 1000000000) (hnd : ∀ v, v < M + 1 -> g.lf v = true -> due v < 1) : ∀ v, v < M + 1 -> due v = 0 := by
 have k := kpt_of hl h.ld;have hlen : (ls ++ Y1 M).length = ls.length + 2 * M := by rw [List.length_append, toll_len]
 have hno : ∀ v, v < M + 1 -> ¬ due v <= -1 := fun s hs hd => by
  have near : ∀ v, v < M + 1 -> -1300000 <= p v /\ p v <= base + 2560002 := fun v hv => ⟨h.pl v hv, h.pu v hv⟩
  have vis : ∀ v, v < M + 1 -> ¬ g.pr v = 1000000000 -> g.lf v = true := fun v hv hf => by
   cases e : g.lf v with
   | true => rfl
   | false => exact absurd (hall v hv e) hf
  have p0 := (hj.src s hs hd).1;have v1 := vis s hs (by omega);have go0 : g.lf 0 = true /\ g.pr 0 <= 1280001 + base + 2560002 + 1300000 := by
   by_cases z : s = 0
   ·rw [z] at v1 p0; exact ⟨v1, by omega⟩
   ·obtain ⟨_, t2⟩ := tl_up (ls := ls) (show s - 1 < M by omega)
    obtain ⟨b1, b2, b3⟩ := fld t2;have h1 := (hj.rel s hs v1 (ls.length + 2 * (s - 1) + 1) (by omega)).1 (by rw [b1]; omega);rw [b2, b3] at h1;have n1 := near s hs;have n0 := near 0 (by omega);exact ⟨vis 0 (by omega) (by omega), by omega⟩
  have go : ∀ v, v < M + 1 -> g.lf v = true := fun v hv => by
   by_cases z : v = 0
   ·rw [z]; exact go0.1
   ·obtain ⟨t1, _⟩ := tl_up (ls := ls) (show v - 1 < M by omega)
    obtain ⟨a1, a2, a3⟩ := fld t1;have h1 := (hj.rel 0 (by omega) go0.1 (ls.length + 2 * (v - 1)) (by omega)).1 a1;rw [a2, a3, show v - 1 + 1 = v by omega] at h1;have n1 := near v hv;have n0 := near 0 (by omega);exact vis v hv (by omega)
  have le0 : ∀ v, v < M + 1 -> due v <= 0 := fun v hv => by have := hnd v hv (go v hv); omega
  have : tot due (M + 1) <= due s := by
   have h1 := tot_mem (f := fun v => -(due v)) (fun v hv => by have := le0 v hv; show 0 <= -(due v); omega) s hs;have h2 := tot_sub (f := fun _ => 0) (g := due) (N := M + 1);rw [tot_nil (f := fun _ => (0 : Int)) (fun _ _ => rfl), U6 (f := fun v => (0 : Int) - due v) (g := fun v => -(due v)) (fun v _ => by omega)] at h2;omega
  have := h.sm;omega
 intro v hv;have h1 := tot_mem (f := due) (fun v hv => by have := hno v hv; omega) v hv;have h2 := hno v hv;have h3 := h.sm;omega
theorem Lv.finer {ls : List (List Int)} {M : Nat} {w due t p : Nat -> Int} {P Q base : Int} (h : Lv ls M w due t p P base) (hQ : Q ∣ P) : Lv ls M w due t p Q (base + 2560002) :=
 ⟨h.ld, fun i hi => Int.dvd_trans hQ (h.dv i hi), h.sm, h.tm, fun v hv _ => h.pu v hv, fun v hv => by have := h.pu v hv; omega, h.pl, h.te⟩
section
variable {X : FuncId -> List Value -> St -> (Value -> St -> Bool) -> Bool}
end
def fm (f : Nat -> Value) (n : Nat) : List Value := (List.range n).map f
theorem fm_len {f : Nat -> Value} {n : Nat} : (fm f n).length = n := by simp [fm]
theorem fm_get {f : Nat -> Value} {n q : Nat} (h : q < n) : (fm f n)[q]? = some (f q) := by
 unfold fm;rw [List.getElem?_map, List.getElem?_range h]; rfl
theorem fm_none {f : Nat -> Value} {n q : Nat} (h : n <= q) : (fm f n)[q]? = none := List.getElem?_eq_none (by rw [fm_len]; exact h)
theorem fm_ext {f g : Nat -> Value} {n : Nat} (h : ∀ q, q < n -> f q = g q) : fm f n = fm g n := List.map_congr_left (fun q hq => h q (List.mem_range.1 hq))
theorem fm_set {f g : Nat -> Value} {n i : Nat} {v : Value} (h : ∀ q, q < n -> g q = if q = i then v else f q) : (fm f n).set i v = fm g n := by
 refine List.ext_getElem? (fun j => ?_);rw [List.getElem?_set];by_cases hj : j < n
 ·rw [fm_get hj, fm_get hj, fm_len, h j hj]
  by_cases e : i = j
  ·subst e; rw [if_pos rfl, if_pos hj, if_pos rfl]
  ·rw [if_neg e, if_neg (fun q => e q.symm)]
 ·rw [fm_none (by omega), fm_none (by omega), fm_len]
  split
  ·rw [if_neg (by omega)]
  ·rfl
theorem seg_of {l : List Value} : ∀ {r : List Value} {i : Nat}, (∀ t, t < r.length -> l[i + t]? = r[t]?) -> segL l i r.length = some r
 | [], _, _ => rfl
 | v :: r, i, h => by
  have h0 := h 0 (by simp);have h1 := seg_of (l := l) (r := r) (i := i + 1) (fun t ht => by
   have := h (t + 1) (by simp; omega);simpa [Nat.add_assoc, Nat.add_comm 1 t] using this)
  rw [Nat.add_zero] at h0;show segL l i (r.length + 1) = _;unfold segL;rw [h0, h1]; rfl
theorem fm_over {f g : Nat -> Value} {n i : Nat} {r : List Value} (hi : i + r.length <= n) (h : ∀ q, q < n -> some (g q) = if i <= q /\ q < i + r.length then r[q - i]? else some (f q)) : overL (fm f n) i r = some (fm g n) := by
 have hl : i + r.length <= (fm f n).length := by rw [fm_len]; exact hi
 obtain ⟨l', e⟩ := overL_some hl;rw [e];obtain ⟨e2, _⟩ := overL_eq e (by omega);subst e2
 congr 1
 refine List.ext_getElem? (fun q => ?_);rw [over_get hl];by_cases hq : q < n
 ·rw [fm_get hq, fm_get hq, h q hq]
 ·rw [fm_none (by omega), fm_none (by omega), if_neg (by omega)]
def cmV (c : Cm) : Nat -> Value
 | 0 => .int .i64 (c.lim : Int)
 | 1 => .bool c.bk
 | 2 => .int .i64 c.fr
 | 3 => .int .i64 (c.to : Int)
 | _ => .int .i64 c.ms
def cmC (c : Cm) : List Value := [.int .i64 (c.lim : Int), .bool c.bk, .int .i64 c.fr, .int .i64 (c.to : Int), .int .i64 c.ms]
theorem cmC_get {c : Cm} {t : Nat} (h : t < 5) : (cmC c)[t]? = some (cmV c t) := by
 match t, h with
 | 0, _ => rfl
 | 1, _ => rfl
 | 2, _ => rfl
 | 3, _ => rfl
 | 4, _ => rfl
def cml (σ : Nat -> Cm) (n : Nat) : List Value := fm (fun q => cmV (σ (q / 5)) (q % 5)) (n * 5)
theorem cml_len {σ : Nat -> Cm} {n : Nat} : (cml σ n).length = n * 5 := fm_len
theorem cml_get {σ : Nat -> Cm} {n j t : Nat} (hj : j < n) (ht : t < 5) : (cml σ n)[0 + j * 5 + t]? = some (cmV (σ j) t) := by
 unfold cml;rw [fm_get (by omega), show (0 + j * 5 + t) / 5 = j by omega, show (0 + j * 5 + t) % 5 = t by omega]
theorem cml_seg {σ : Nat -> Cm} {n j : Nat} (hj : j < n) : segL (cml σ n) (0 + j * 5) 5 = some (cmC (σ j)) := by
 have := seg_of (l := cml σ n) (r := cmC (σ j)) (i := 0 + j * 5) (fun t ht => by
  have ht' : t < 5 := ht;rw [cml_get hj ht', cmC_get ht'])
 exact this
theorem cml_over {σ : Nat -> Cm} {n j : Nat} {c : Cm} (hj : j < n) : overL (cml σ n) (0 + j * 5) (cmC c) = some (cml (Z2 σ j c) n) := by
 refine fm_over (by show 0 + j * 5 + 5 <= n * 5; omega) (fun q hq => ?_);show some (cmV (Z2 σ j c (q / 5)) (q % 5)) = if 0 + j * 5 <= q /\ q < 0 + j * 5 + 5 then (cmC c)[q - (0 + j * 5)]? else some (cmV (σ (q / 5)) (q % 5))
 by_cases e : q / 5 = j
 ·rw [if_pos (by omega), e, V2, cmC_get (by omega)]; congr 2; omega
 ·rw [if_neg (by omega), Q1 e]
theorem cml_app {σ : Nat -> Cm} {n : Nat} : cml σ n ++ cmC (σ n) = cml σ (n + 1) := by
 refine List.ext_getElem? (fun q => ?_);by_cases h : q < n * 5
 ·rw [List.getElem?_append_left (by rw [cml_len]; exact h)]
  unfold cml;rw [fm_get h, fm_get (by omega)]
 ·rw [List.getElem?_append_right (by rw [cml_len]; omega), cml_len]
  by_cases h2 : q < (n + 1) * 5
  ·rw [cmC_get (by omega)]
   unfold cml;rw [fm_get h2, show q / 5 = n by omega]; congr 2; omega
  ·rw [List.getElem?_eq_none (by show 5 <= _; omega)]
   unfold cml;rw [fm_none (by omega)]
theorem cml_ext {σ τ : Nat -> Cm} {n : Nat} (h : ∀ j, j < n -> σ j = τ j) : cml σ n = cml τ n := fm_ext (fun q hq => by show cmV (σ (q / 5)) _ = cmV (τ (q / 5)) _; rw [h (q / 5) (by omega)])
def trV (g : Tp) (q : Nat) : Value := if q < 65 then .int .i64 (g.pr q) else if q < 390 then cmV (g.cm ((q - 65) / 5)) ((q - 65) % 5) else .bool (g.lf (q - 390))
def trC (g : Tp) : List Value := fm (trV g) 455
theorem trC_len {g : Tp} : (trC g).length = 455 := fm_len
theorem trV_pr {g : Tp} {q : Nat} (h : q < 65) : trV g q = .int .i64 (g.pr q) := if_pos h
theorem trV_cm {g : Tp} {q : Nat} (h : ¬ q < 65) (h2 : q < 390) : trV g q = cmV (g.cm ((q - 65) / 5)) ((q - 65) % 5) := by unfold trV; rw [if_neg h, if_pos h2]
theorem trV_lf {g : Tp} {q : Nat} (h : ¬ q < 390) : trV g q = .bool (g.lf (q - 390)) := by unfold trV; rw [if_neg (by omega), if_neg h]
theorem tr_pr {g : Tp} {j : Nat} (h : j < 65) : (trC g)[0 + 0 + j * 1]? = some (.int .i64 (g.pr j)) := by
 unfold trC;rw [fm_get (by omega), trV_pr (by omega), show 0 + 0 + j * 1 = j by omega]
theorem tr_lf {g : Tp} {j : Nat} (h : j < 65) : (trC g)[0 + 390 + j * 1]? = some (.bool (g.lf j)) := by
 unfold trC;rw [fm_get (by omega), trV_lf (by omega), show 0 + 390 + j * 1 - 390 = j by omega]
theorem tr_fr {g : Tp} {j : Nat} (h : j < 65) : (trC g)[0 + 65 + j * 5 + 2]? = some (.int .i64 (g.cm j).fr) := by
 unfold trC;rw [fm_get (by omega), trV_cm (by omega) (by omega), show (0 + 65 + j * 5 + 2 - 65) / 5 = j by omega, show (0 + 65 + j * 5 + 2 - 65) % 5 = 2 by omega]; rfl
theorem tr_cm {g : Tp} {j : Nat} (h : j < 65) : segL (trC g) (0 + 65 + j * 5) 5 = some (cmC (g.cm j)) := by
 have := seg_of (l := trC g) (r := cmC (g.cm j)) (i := 0 + 65 + j * 5) (fun t ht => by
  have ht' : t < 5 := ht;unfold trC;rw [fm_get (by omega), cmC_get ht', trV_cm (by omega) (by omega), show (0 + 65 + j * 5 + t - 65) / 5 = j by omega, show (0 + 65 + j * 5 + t - 65) % 5 = t by omega])
 exact this
theorem tr_prS {g : Tp} {j : Nat} {z : Int} (h : j < 65) : (trC g).set (0 + 0 + j * 1) (.int .i64 z) = trC ⟨Z2 g.pr j z, g.cm, g.lf⟩ := fm_set (fun q hq => by
 by_cases e2 : q < 65
 ·rw [trV_pr e2, trV_pr e2]
  dsimp only;by_cases e : q = 0 + 0 + j * 1
  ·rw [if_pos e, show q = j by omega, V2]
  ·rw [if_neg e, Q1 (show q ≠ j by omega)]
 ·rw [if_neg (show ¬ q = 0 + 0 + j * 1 by omega)]
  by_cases e3 : q < 390
  ·rw [trV_cm e2 e3, trV_cm e2 e3]
  ·rw [trV_lf e3, trV_lf e3])
theorem tr_lfS {g : Tp} {j : Nat} {z : Bool} (h : j < 65) : (trC g).set (0 + 390 + j * 1) (.bool z) = trC ⟨g.pr, g.cm, Z2 g.lf j z⟩ := fm_set (fun q hq => by
 by_cases e2 : q < 65
 ·rw [if_neg (show ¬ q = 0 + 390 + j * 1 by omega), trV_pr e2, trV_pr e2]
 ·by_cases e3 : q < 390
  ·rw [if_neg (show ¬ q = 0 + 390 + j * 1 by omega), trV_cm e2 e3, trV_cm e2 e3]
  ·rw [trV_lf e3, trV_lf e3]
   dsimp only;by_cases e : q = 0 + 390 + j * 1
   ·rw [if_pos e, show q - 390 = j by omega, V2]
   ·rw [if_neg e, Q1 (show q - 390 ≠ j by omega)])
theorem cmV_fr {c : Cm} {z : Int} {t : Nat} (h : t ≠ 2) : cmV ⟨c.lim, c.bk, z, c.to, c.ms⟩ t = cmV c t := by
 match t, h with
 | 0, _ => rfl
 | 1, _ => rfl
 | 2, h => exact absurd rfl h
 | 3, _ => rfl
 | n + 4, _ => rfl
theorem tr_frS {g : Tp} {j : Nat} {z : Int} (h : j < 65) : (trC g).set (0 + 65 + j * 5 + 2) (.int .i64 z) = trC ⟨g.pr, Z2 g.cm j ⟨(g.cm j).lim, (g.cm j).bk, z, (g.cm j).to, (g.cm j).ms⟩, g.lf⟩ := fm_set (fun q hq => by
 by_cases e2 : q < 65
 ·rw [if_neg (show ¬ q = 0 + 65 + j * 5 + 2 by omega), trV_pr e2, trV_pr e2]
 ·by_cases e3 : q < 390
  ·rw [trV_cm e2 e3, trV_cm e2 e3]
   dsimp only;by_cases e4 : (q - 65) / 5 = j
   ·rw [e4, V2]
    by_cases e : q = 0 + 65 + j * 5 + 2
    ·rw [if_pos e, show (q - 65) % 5 = 2 by omega]; rfl
    ·rw [if_neg e, cmV_fr (by omega)]
   ·rw [Q1 e4, if_neg (show ¬ q = 0 + 65 + j * 5 + 2 by omega)]
  ·rw [if_neg (show ¬ q = 0 + 65 + j * 5 + 2 by omega), trV_lf e3, trV_lf e3])
theorem tr_cmS {g : Tp} {j : Nat} {c : Cm} (h : j < 65) : overL (trC g) (0 + 65 + j * 5) (cmC c) = some (trC ⟨g.pr, Z2 g.cm j c, g.lf⟩) := by
 refine fm_over (by show 0 + 65 + j * 5 + 5 <= 455; omega) (fun q hq => ?_);have hc : (cmC c).length = 5 := rfl;rw [hc];by_cases e2 : q < 65
 ·rw [if_neg (show ¬ (0 + 65 + j * 5 <= q /\ q < 0 + 65 + j * 5 + 5) by omega), trV_pr e2, trV_pr e2]
 ·by_cases e3 : q < 390
  ·rw [trV_cm e2 e3, trV_cm e2 e3]
   dsimp only;by_cases e4 : (q - 65) / 5 = j
   ·rw [e4, V2, if_pos (show 0 + 65 + j * 5 <= q /\ q < 0 + 65 + j * 5 + 5 by omega), cmC_get (show q - (0 + 65 + j * 5) < 5 by omega), show q - (0 + 65 + j * 5) = (q - 65) % 5 by omega]
   ·rw [Q1 e4, if_neg (show ¬ (0 + 65 + j * 5 <= q /\ q < 0 + 65 + j * 5 + 5) by omega)]
  ·rw [if_neg (show ¬ (0 + 65 + j * 5 <= q /\ q < 0 + 65 + j * 5 + 5) by omega), trV_lf e3, trV_lf e3]
def tp0 : Tp := ⟨fun _ => 0, fun _ => ⟨0, false, 0, 0, 0⟩, fun _ => false⟩
def limC (ts : List (List Int)) : List Value := fm (fun q => .int .i64 ((ts.getD (q / 4) []).getD (q % 4) 0)) (ts.length * 4)
theorem limC_len {ts : List (List Int)} : (limC ts).length = ts.length * 4 := fm_len
theorem limC_seg {ts : List (List Int)} {k : Nat} {y0 y1 y2 y3 : Int} (h : ts[k]? = some [y0, y1, y2, y3]) : segL (limC ts) (0 + k * 4) 4 = some [.int .i64 y0, .int .i64 y1, .int .i64 y2, .int .i64 y3] := by
 obtain ⟨hk, _⟩ := List.getElem?_eq_some_iff.1 h;have e : ts.getD k [] = [y0, y1, y2, y3] := by rw [List.getD_eq_getElem?_getD, h]; rfl
 have := seg_of (l := limC ts) (r := [.int .i64 y0, .int .i64 y1, .int .i64 y2, .int .i64 y3]) (i := 0 + k * 4) (fun t ht => by
  have ht' : t < 4 := ht;unfold limC;rw [fm_get (by omega), show (0 + k * 4 + t) / 4 = k by omega, show (0 + k * 4 + t) % 4 = t by omega, e]
  match t, ht' with
  | 0, _ => rfl
  | 1, _ => rfl
  | 2, _ => rfl
  | 3, _ => rfl)
 exact this
theorem limC_app {a b : List (List Int)} : limC (a ++ b) = limC a ++ limC b := by
 refine List.ext_getElem? (fun q => ?_);by_cases h : q < a.length * 4
 ·rw [List.getElem?_append_left (by rw [limC_len]; exact h)]
  unfold limC;rw [fm_get (by rw [List.length_append]; omega), fm_get h, List.getD_eq_getElem?_getD (l := a ++ b), List.getElem?_append_left (by omega), <- List.getD_eq_getElem?_getD]
 ·rw [List.getElem?_append_right (by rw [limC_len]; omega), limC_len]
  unfold limC;by_cases h2 : q < (a ++ b).length * 4
  ·rw [fm_get h2]
   rw [List.length_append] at h2;rw [fm_get (by omega), List.getD_eq_getElem?_getD (l := a ++ b), List.getElem?_append_right (by omega), <- List.getD_eq_getElem?_getD, show (q - a.length * 4) / 4 = q / 4 - a.length by omega, show (q - a.length * 4) % 4 = q % 4 by omega]
  ·rw [fm_none (by omega)]
   rw [List.length_append] at h2;rw [fm_none (by omega)]
theorem Ats.of {s : St} {b : Nat} : ∀ {l : List Value} {off : Nat}, (∀ j v, l[j]? = some v -> At s b (off + j) v) -> Ats s b off l
 | [], _, _ => trivial
 | v :: l, off, h => ⟨by simpa using h 0 v (by simp), Ats.of (fun j u hj => by have := h (j + 1) u (by simpa using hj); simpa [Nat.add_assoc, Nat.add_comm 1 j] using this)⟩
theorem rows_ats {s : St} {a : Option Addr} {b o : Nat} {ts : List (List Int)} (h : RowsE s 4 a ts) (ha : a = some ⟨b, o, none⟩) : Ats s b o (limC ts) := Ats.of (fun q v hq => by
 have hlt : q < ts.length * 4 := by
  have := (List.getElem?_eq_some_iff.1 hq).1
  rwa [limC_len] at this
 unfold limC at hq;rw [fm_get hlt] at hq;cases hq;have hk : q / 4 < ts.length := by omega
 have h1 := h.cells b o ha (q / 4) _ (List.getElem?_eq_getElem hk);have hw := h.width _ (List.getElem_mem hk);have h2 := h1.get (j := q % 4) (v := .int .i64 ((ts.getD (q / 4) []).getD (q % 4) 0)) (by
  have hm : q % 4 < (ts[q / 4]).length := by omega
  rw [List.getElem?_map, List.getElem?_eq_getElem hm, List.getD_eq_getElem?_getD, List.getD_eq_getElem?_getD, List.getElem?_eq_getElem hk];simp only [Option.map_some, Option.getD_some];rw [List.getElem?_eq_getElem hm]; rfl)
 rw [show o + q / 4 * 4 + q % 4 = o + q by omega] at h2;exact h2)
theorem rows_own {s : St} {b e : Nat} {op : Bool} {M : Nat} {ts : List (List Int)} (hg : Lg M ts) (hM : M <= 64) (hn : ts.length < 140737488355328) (hf : ∀ r ∈ ts, r.length = 4 /\ ∀ x ∈ r, -9223372036854775808 <= x /\ x < 9223372036854775808) (h : Obj s b e op (limC ts)) : RowsE s 4 (some ⟨b, 0, none⟩) ts := by
 refine ⟨fun c hc => by cases hc; rfl, fun _ => ⟨b, 0, rfl⟩, fun c o hc k r hr => ?_, fun r hr => (hf r hr).1, fun r hr => (hf r hr).2, hn⟩;cases hc;obtain ⟨hk, e1⟩ := List.getElem?_eq_some_iff.1 hr;obtain ⟨_, _, _, _, _, y3, e2⟩ := hg k hk;rw [hr] at e2;cases e2;have := limC_seg hr;have h2 := (segL_eq this).2;exact h.ats (fun j hj => h2 j hj)
theorem a_eqN {P : Program} {C : Nat -> (CF -> Bool) -> Bool} {X : FuncId -> List Value -> St -> (Value -> St -> Bool) -> Bool} {s0 : St} {n nt t : Nat} {env : List (Nat × Value)} {A : List Ob} {R : Value -> List Ob -> Prop} {x y : Ev.X} {a : Option Addr} {m c : Nat} (hx : xv env x = some (.slice a m c)) (hy : xv env y = some (.slice none 0 0)) (hn : evBin P .eql t 1 (.slice none 0 0) (.slice none 0 0) = some (.bool true)) (h0 : a = none -> m = 0 /\ c = 0) (h1 : a = none -> R (.bool true) A) (h2 : ¬ a = none -> R (.bool false) A) : OpA P C X s0 n nt (.bin .eql t 1 x y) env A R := by
 cases a with
 | none =>
  obtain ⟨rfl, rfl⟩ := h0 rfl;exact a_bin hx hy hn (h1 rfl)
 | some a => exact a_bin hx hy rfl (h2 (by simp))
theorem a_ldb {P : Program} {C : Nat -> (CF -> Bool) -> Bool} {X : FuncId -> List Value -> St -> (Value -> St -> Bool) -> Bool} {s0 : St} {n nt : Nat} {env : List (Nat × Value)} {A : List Ob} {R : Value -> List Ob -> Prop} {a : Ev.X} {b off e : Nat} {op t : Bool} {l : List Value} (ha : xv env a = some (.pointer (some ⟨b, off, none⟩))) (ho : Own A b e op l) (hv : l[off]? = some (.bool t)) (h1 : t = true -> R (.bool true) A) (h2 : t = false -> R (.bool false) A) : OpA P C X s0 n nt (.ld a none) env A R := by
 cases t with
 | true => exact U1 ha ho hv (h1 rfl)
 | false => exact U1 ha ho hv (h2 rfl)
theorem endcA {s0 : St} {env : List (Nat × Value)} {A A' : List Ob} {a b o m e : Nat} {op : Bool} {l r : List Value} {Q : Value -> List Ob -> Prop} (ha : look env a = some (.pointer (some ⟨b, o, none⟩))) (h0 : m ≠ 0) (hs : A'.Sublist A) (ho : Own A b e op l) (hv : segL l o m = some r) (hq : Q (.agg ⟨r⟩) A') : EndA s0 [.cell a (some m)] Q .ret env [] A :=
 ⟨rfl, [.agg ⟨r⟩], A', ⟨b, o, r, [], rfl, ha, h0, ⟨e, op, l, ho, hv⟩, rfl⟩, hs, hq⟩
theorem src_ints {s0 : St} {A : List Ob} {a : Option Addr} {l : List Int} {c : Nat} (h : IntsE s0 a l) (hl : l ≠ []) : Src s0 A 1 l.length (ints l) (.slice a l.length c) := by
 obtain ⟨b, o, rfl⟩ := h.addr hl;exact ⟨b, o, c, rfl, by rw [ints_len, Nat.mul_one], fun e => hl (by cases l with | nil => rfl | cons x l => cases e), .inr (h.cells b o rfl)⟩
theorem src_rows {s0 : St} {A : List Ob} {a : Option Addr} {ts : List (List Int)} {c : Nat} (h : RowsE s0 4 a ts) (hl : ts ≠ []) : Src s0 A 4 ts.length (limC ts) (.slice a ts.length c) := by
 obtain ⟨b, o, rfl⟩ := h.addr hl;refine ⟨b, o, c, rfl, limC_len, fun e => hl (List.eq_nil_of_length_eq_zero ?_), .inr (rows_ats h rfl)⟩;have := congrArg List.length e;rw [limC_len] at this;have h4 : ts.length * 4 = 0 := this;omega
def TlOk (TT : Nat) (a : Option Addr) (ts : List (List Int)) (TL : List Ob) : Prop := (ts = [] /\ TL = [] /\ ∀ b, a = some b -> b.spot = none) ∨ ∃ b op, a = some ⟨b, 0, none⟩ /\ TL = [.row b TT op (limC ts)]
theorem TlOk.own {TT : Nat} {a : Option Addr} {ts : List (List Int)} {TL : List Ob} (h : TlOk TT a ts TL) (h0 : 0 < ts.length) : ∃ b op, a = some ⟨b, 0, none⟩ /\ ∀ R, Own (TL ++ R) b TT op (limC ts) := by
 rcases h with ⟨h1, _⟩ | ⟨b, op, h1, h2⟩
 ·rw [h1] at h0; exact absurd h0 (Nat.lt_irrefl 0)
 ·exact ⟨b, op, h1, fun R => by rw [h2]; exact .here⟩
theorem TlOk.rows {TT : Nat} {s0 s : St} {a : Option Addr} {M : Nat} {ts : List (List Int)} {TL A : List Ob} (h : TlOk TT a ts TL) (hA : TL.Sublist A) (hs : Hld s0 A s) (hg : Lg M ts) (hM : M <= 64) (hn : ts.length < 140737488355328) (hf : ∀ r ∈ ts, r.length = 4 /\ ∀ x ∈ r, -9223372036854775808 <= x /\ x < 9223372036854775808) : RowsE s 4 a ts := by
 rcases h with ⟨h1, _, h3⟩ | ⟨b, op, h1, h2⟩
 ·subst h1
  exact ⟨h3, fun e => absurd rfl e, fun b o hb i r hr => (by simp at hr), fun r hr => (by cases hr), fun r hr => (by cases hr), (by simp)⟩
 ·subst h1
  exact rows_own hg hM hn hf ((hs.sub hA).own (by rw [h2]; exact .here))
theorem tl_fit {s : St} {a : Option Addr} {ls : List (List Int)} {M : Nat} (h : RowsE s 4 a ls) (hM : M <= 64) : ∀ r ∈ ls ++ Y1 M, r.length = 4 /\ ∀ x ∈ r, -9223372036854775808 <= x /\ x < 9223372036854775808 := fun r hr => by
 rcases List.mem_append.1 hr with q | q
 ·exact ⟨h.width r q, h.fit r q⟩
 ·have key : ∀ m, m <= 64 -> ∀ r ∈ Y1 m, r.length = 4 /\ ∀ x ∈ r, -9223372036854775808 <= x /\ x < 9223372036854775808 := by
   intro m
   induction m with
   | zero => intro _ r hr; cases hr
   | succ m ih =>
    intro hm r hr;rcases List.mem_append.1 hr with q | q
    ·exact ih (by omega) r q
    ·simp only [List.mem_cons, List.not_mem_nil, or_false] at q
     rcases q with rfl | rfl
     ·exact ⟨rfl, fun x hx => by simp only [List.mem_cons, List.not_mem_nil, or_false] at hx; omega⟩
     ·exact ⟨rfl, fun x hx => by simp only [List.mem_cons, List.not_mem_nil, or_false] at hx; omega⟩
  exact key M hM r q
theorem IntsE.drop {s : St} {b o : Nat} {l : List Int} (h : IntsE s (some ⟨b, o, none⟩) l) {k : Nat} (hk : k <= l.length) : IntsE s (some ⟨b, o + k * 1, none⟩) (l.drop k) := by
 refine ⟨fun c hc => by cases hc; rfl, fun _ => ⟨b, o + k * 1, rfl⟩, fun c o' hc => ?_, fun x hx => h.fit x (List.mem_of_mem_drop hx), (by have := h.len; rw [List.length_drop]; omega)⟩;cases hc;refine Ats.of (fun j v hj => ?_);have hj' : (ints l)[k + j]? = some v := by
  unfold ints at hj ⊢;rw [List.map_drop, List.getElem?_drop] at hj;exact hj
 have := (h.cells b o rfl).get hj'
 rwa [show o + (k + j) = o + k * 1 + j by omega] at this
section
variable {X : FuncId -> List Value -> St -> (Value -> St -> Bool) -> Bool}
end
def szs (w : List Int) : Nat -> Int
 | 0 => 0
 | k + 1 => szs w k + max (w.getD k 0) (-(w.getD k 0))
theorem szs_pos {w : List Int} : ∀ {k : Nat}, 0 <= szs w k
 | 0 => Int.le_refl _
 | k + 1 => by have := szs_pos (w := w) (k := k); show 0 <= szs w k + _; omega
def WOk (w : List Int) (n : Nat) : Prop := ∀ k, k < n -> szs w (k + 1) <= 3600000000000
theorem wok_zero {w : List Int} : WOk w 0 := fun k hk => absurd hk (Nat.not_lt_zero k)
theorem wok_step {w : List Int} {k : Nat} (h : WOk w k) (h2 : szs w k + max (w.getD k 0) (-(w.getD k 0)) <= 3600000000000) : WOk w (k + 1) := fun u hu => by
 by_cases q : u = k
 ·subst q; exact h2
 ·exact h u (by omega)
theorem wok_le {w : List Int} {n k : Nat} (h : WOk w n) (hk : k <= n) : szs w k <= 3600000000000 := by
 cases k with
 | zero => show (0 : Int) <= _; decide
 | succ k => exact h k (by omega)
theorem wok_no {w : List Int} {n k : Nat} (hk : k < n) (h : ¬ szs w k + max (w.getD k 0) (-(w.getD k 0)) <= 3600000000000) : ¬ WOk w n := fun q => h (q k hk)
def mxV (l : List Int) : Nat -> Int
 | 0 => l.getD 0 0
 | k + 1 => max (mxV l k) (l.getD (k + 1) 0)
theorem mx_mem {l : List Int} : ∀ {k : Nat}, ∃ j, j <= k /\ mxV l k = l.getD j 0
 | 0 => ⟨0, Nat.le_refl _, rfl⟩
 | k + 1 => by
  obtain ⟨j, h1, h2⟩ := mx_mem (l := l) (k := k);by_cases q : mxV l k <= l.getD (k + 1) 0
  ·exact ⟨k + 1, Nat.le_refl _, by show max _ _ = _; omega⟩
  ·exact ⟨j, by omega, by show max _ _ = _; omega⟩
theorem two_tl {z : Int} : limC [[0, z, 1280001, 0], [z, 0, 1280001, 0]] = [.int .i64 0, .int .i64 z, .int .i64 1280001, .int .i64 0, .int .i64 z, .int .i64 0, .int .i64 1280001, .int .i64 0] := by kernel_rfl
theorem app_tl {ls : List (List Int)} {i : Nat} : limC (ls ++ Y1 i) ++ [.int .i64 0, .int .i64 ((i : Int) + 1), .int .i64 1280001, .int .i64 0, .int .i64 ((i : Int) + 1), .int .i64 0, .int .i64 1280001, .int .i64 0] = limC (ls ++ Y1 (i + 1)) := by
 rw [show Y1 (i + 1) = Y1 i ++ [[0, ((i + 1 : Nat) : Int), 1280001, 0], [((i + 1 : Nat) : Int), 0, 1280001, 0]] from rfl, <- List.append_assoc, limC_app (b := [_, _]), two_tl];rfl
theorem limC_0 : limC (Y1 0) = [] := List.eq_nil_of_length_eq_zero (by rw [limC_len]; rfl)
theorem limC_1 : limC (Y1 1) = [.int .i64 0, .int .i64 (0 + 1), .int .i64 1280001, .int .i64 0, .int .i64 (0 + 1), .int .i64 0, .int .i64 1280001, .int .i64 0] := by
 have := app_tl (ls := []) (i := 0);rw [show ([] : List (List Int)) ++ Y1 0 = Y1 0 from rfl, limC_0] at this;exact this.symm
section
variable {X : FuncId -> List Value -> St -> (Value -> St -> Bool) -> Bool}
theorem weighs_s (n : Nat) (aw : Option Addr) (cw : Nat) (w : List Int) (s : St) (hs : Wf s) (hn : 281474976710656 <= n) (hW : IntsE s aw w) : Spec Tryz.prog (tabK tabw) X (n + 300) 76 [.slice aw w.length cw] s (fun v A => ((WOk w w.length /\ v = .bool true) ∨ (¬ WOk w w.length /\ v = .bool false)) /\ A = []) := by
 refine enter bw76_at rfl hs ?_;unfold bw76;have hlen := hW.len;refine rS (kM J J (Q0 (rS (kM J J (Q0 (rQ (rS (kM J J (kO J (a_lenx J hW.spot (kM J J (Q0 (Z1 (Z5 (fun j e A => ∃ (k : Nat), e = [(3, .int .i64 (3600000000000 - szs w k)), (6, .slice aw w.length cw), (7, .int .i64 (w.length : Int)), (8, .int .i64 (k : Int))] /\ A = [] /\ j = w.length - k /\ k <= w.length /\ WOk w k) 200 0 281474976710656 ?_ (j := _) (env2 := _) (A2 := _) ?_ ?_ ?_ ?_ ⟨0, rfl, rfl, rfl, Nat.zero_le _, wok_zero⟩))))))))))))))
 rotate_left
 ·omega
 ·omega
 ·exact (lc 3 J (lc 6 J (lc 7 J (lc 8 J Less.nil))))
 ·exact .slnil
 rintro n hn j _ _ ⟨k, rfl, rfl, rfl, hk, hw⟩;have hz1 := szs_pos (w := w) (k := k);have hz2 := wok_le hw (Nat.le_refl k);refine rS (kO J (Q6 J J (fun h1 => ?_) (fun h1 => ?_)))
 ·have hin := hW.in k
  refine Q0 (rQ (Y0 J (W1 (W0 (rQ (Z1 (rS (kO J (Q8 (j := k) hW rfl rfl (by omega) (by first | rfl | omega) (by omega) (fun _ _ a2 => (kO J (W7 J (hW.at a2 (by omega)) (kM J J (Q0 (rQ (rS (kM J J (kM J J (kO J (a_neg J (by omega) (kM J J (kO J (a_callB J J (fun s1 h1 => inside_s _ _ _ _ s1 h1.wf) (fun h3 => ?_) (fun h3 => ?_))))))))))))))))))))))))
  ·refine kO J (U7 J (Q0 (U0 J (W1 (W0 (rI (kM J J (kM J J (kM J J (kO J (a_neg J (by omega) (kO J (a_max J (kO J (a_sub J J (by omega) (kM J J (Q0 (V1 (W0 (rI (kO J (Q4 J J (by omega) (kM J J (Q0 (W0 ?_)))))))))))))))))))))))))
   exact ⟨rfl, _, _, _, (show w.length - (k + 1) < w.length - k by omega), (lc 3 J (lc 6 J (lc 7 J (lc 8 J Less.nil)))), .slnil, ⟨k + 1, (by rw [show (3600000000000 : Int) - szs w (k + 1) = 3600000000000 - szs w k - max (w.getD k 0) (-(w.getD k 0)) from by show _ - (szs w k + _) = _; omega]; rfl), rfl, rfl, by omega, (wok_step hw (by omega))⟩⟩
  ·refine kO J (U7 J (Q0 (Y0 J (rS (kM J J (Q0 (Z3 (V3 (Y7 (V3 (V3 (Y7 (V3 ?_)))))))))))))
   exact end1 J ⟨.inr ⟨wok_no (k := k) (by omega) (by omega), rfl⟩, rfl⟩
 ·refine Q0 (rQ (U0 J (W5 (W3 (W3 (U3 (W0 (rS (kM J J (Q0 (Z3 ?_)))))))))))
  have hkw : k = w.length := by omega
  subst hkw;exact end1 J ⟨.inl ⟨hw, rfl⟩, rfl⟩
theorem checkWeights_s (n : Nat) (m : Int) (al : Option Addr) (cl : Nat) (ls : List (List Int)) (aw : Option Addr) (cw : Nat) (w : List Int) (s : St) (hs : Wf s) (hn : 844424930131968 <= n) (hL : RowsE s 4 al ls) (hW : IntsE s aw w) : Spec Tryz.prog (tabK tabw) X (n + 700) 74 [.agg ⟨[.int .i64 m, .slice al ls.length cl]⟩, .slice aw w.length cw] s (fun v A => (¬ sysE m ls = 0 /\ v = .int .i64 (sysE m ls) /\ A = []) ∨ (sysE m ls = 0 /\ ¬ ((w.length : Int) = m + 1 /\ WOk w w.length) /\ v = .int .i64 27 /\ A = []) ∨ (sysE m ls = 0 /\ ((w.length : Int) = m + 1 /\ WOk w w.length) /\ v = .int .i64 0 /\ A = [])) := by
 refine enter bw74_at rfl hs ?_;unfold bw74;have hlen := hL.len;have hlenW := hW.len;refine rS (kO J (a_box J J J (fun b1 => (kM J J (Q0 (rQ (rS (kO J (U5 J (by decide) .here rfl (kO J (a_callV J J (fun s1 h1 => Check_s _ _ _ _ _ s1 h1.wf (by omega) (hL.ext hs h1.2.1)) (kM J J (Q0 (rS (kM J J (kO J (Z4 J J (fun h2 => ?_) (fun h2 => ?_))))))))))))))))))
 ·refine Q0 (Y0 J (rS (kM J J (kM J J (Q0 (Z3 (V3 ?_)))))))
  exact end1 J (.inl ⟨by omega, rfl, rfl⟩)
 ·have hsys : sysE m ls = 0 := by omega
  obtain ⟨hm0, hM, h400, hlm⟩ := sysE_ok hsys;refine Q0 (U0 J (W1 (W0 (rQ (rS (kM J J (kO J (a_lenx J hW.spot (kO J (U2 J (kO J (U1 J .here rfl (kO J (Q4 J J (by omega) (kO J (Z4 J J (fun h3 => ?_) (fun h3 => ?_)))))))))))))))))
  ·refine kM J J (V0 J J (V0 J J (V0 J J (kO J (Q3 J J J (Q0 (Y0 J (rS (kM J J (Q0 (Z3 (V3 ?_))))))))))))
   exact end1 J (.inr (.inl ⟨hsys, (fun q => by first | omega | exact hwo2 q.2), rfl, rfl⟩))
  ·refine kM J J (kG J J (Y3 J (kG J J (Y5 J J (fun s1 h1 => weighs_s _ _ _ _ s1 h1.wf (by omega) (hW.ext hs h1.2.1)) (fun v1 A1 q1 => ?_)))))
   obtain ⟨q1, rfl⟩ := q1;rcases q1 with ⟨hwo, rfl⟩ | ⟨hwo, rfl⟩
   ·have hwo1 := hwo
    refine kG J J (U7 J (kO J (Q2 J J J (Q0 (U0 J (W1 (W0 (rS (kM J J (Q0 (Z3 ?_)))))))))));exact end1 J (.inr (.inr ⟨hsys, ⟨by omega, hwo1⟩, rfl, rfl⟩))
   ·have hwo2 := hwo
    refine kG J J (U7 J (kO J (Q2 J J J (Q0 (Y0 J (rS (kM J J (Q0 (Z3 (V3 ?_))))))))));exact end1 J (.inr (.inl ⟨hsys, (fun q => by first | omega | exact hwo2 q.2), rfl, rfl⟩))
theorem CloneI_s (n : Nat) (aw : Option Addr) (cw : Nat) (w : List Int) (s : St) (hs : Wf s) (hW : IntsE s aw w) (hne : w ≠ []) (h64 : w.length <= 100000) : Spec Tryz.prog (tabK tabw) X (n + 100) 82 [.slice aw w.length cw] s (fun v A => ∃ b, v = .slice (some ⟨b, 0, none⟩) w.length OPEN /\ A = [.row b 3 true (ints w)]) := by
 refine enter bw82_at rfl hs ?_;unfold bw82;have hlen := hW.len;obtain ⟨qw, ow, hqw⟩ := hW.addr hne;refine rS (kM J J (Q0 (rQ (rS (kM J J (kO J (a_eqN J J (by kernel_rfl) (fun q => by rw [q] at hqw; cases hqw) (fun h1 => ?_) (fun h1 => ?_))))))))
 ·rw [h1] at hqw; cases hqw
 ·refine Q0 (U0 J (W1 (W0 (rS (kO J (a_lit J J J (fun b2 => (kM J J (kO J (a_appz J (fun b hb => by cases hb; rfl) J (src_ints hW hne) (fun e => hne (List.eq_nil_of_length_eq_zero e)) (by omega) (by omega) (fun b3 => (kM J J (Q0 (Z3 ?_))))))))))))))
  exact end1A J (.q (.cons _ .slnil)) ⟨_, rfl, rfl⟩
theorem CloneL_n (n : Nat) (al : Option Addr) (cl : Nat) (ls : List (List Int)) (s : St) (hs : Wf s) (hL : RowsE s 4 al ls) (hne : ls ≠ []) (h64 : ls.length <= 100000) : Spec Tryz.prog (tabK tabw) X (n + 100) 65 [.slice al ls.length cl] s (fun v A => ∃ b, v = .slice (some ⟨b, 0, none⟩) ls.length OPEN /\ A = [.row b 74 true (limC ls)]) := by
 refine enter bw65_at rfl hs ?_;unfold bw65;have hlen := hL.len;obtain ⟨qw, ow, hqw⟩ := hL.addr hne;refine rS (kM J J (Q0 (rQ (rS (kM J J (kO J (a_eqN J J (by kernel_rfl) (fun q => by rw [q] at hqw; cases hqw) (fun h1 => ?_) (fun h1 => ?_))))))))
 ·rw [h1] at hqw; cases hqw
 ·refine Q0 (U0 J (W1 (W0 (rS (kO J (a_lit J J J (fun b2 => (kM J J (kO J (a_appz J (fun b hb => by cases hb; rfl) J (src_rows hL hne) (fun e => hne (List.eq_nil_of_length_eq_zero e)) (by omega) (by omega) (fun b3 => (kM J J (Q0 (Z3 ?_))))))))))))))
  exact end1A J (.q (.cons _ .slnil)) ⟨_, rfl, rfl⟩
theorem CloneL_e (n : Nat) (al : Option Addr) (cl : Nat) (s : St) (hs : Wf s) (hsp : ∀ b, al = some b -> b.spot = none) (hcl : al = none -> cl = 0) : Spec Tryz.prog (tabK tabw) X (n + 100) 65 [.slice al 0 cl] s (fun v A => (v = .slice none 0 0 /\ A = []) ∨ ∃ b, v = .slice (some ⟨b, 0, none⟩) 0 0 /\ A = [.row b 74 false []]) := by
 refine enter bw65_at rfl hs ?_;unfold bw65;refine rS (kM J J (Q0 (rQ (rS (kM J J (kO J (a_eqN J J (by kernel_rfl) (fun q => ⟨rfl, hcl q⟩) (fun h1 => ?_) (fun h1 => ?_))))))))
 ·refine Q0 (Y0 J (rS (kM J J (Q0 (Z3 (V3 ?_))))))
  exact end1 J (.inl ⟨rfl, rfl⟩)
 ·refine Q0 (U0 J (W1 (W0 (rS (kO J (a_lit J J J (fun b2 => (kM J J (kO J (a_appzz J (fun b hb => by cases hb; rfl) J hsp (kM J J (Q0 (Z3 ?_)))))))))))))
  exact end1A J (.q .slnil) (.inr ⟨_, rfl, rfl⟩)
theorem tolled_n (n : Nat) (M : Nat) (al : Option Addr) (cl : Nat) (ls : List (List Int)) (s : St) (hs : Wf s) (hn : 562949953421312 <= n) (hL : RowsE s 4 al ls) (hne : ls ≠ []) (hM : M <= 64) (h400 : ls.length <= 400) : Spec Tryz.prog (tabK tabw) X (n + 500) 81 [.agg ⟨[.int .i64 (M : Int), .slice al ls.length cl]⟩] s (fun v A => ∃ a2 c2 TL, v = .agg ⟨[.int .i64 (M : Int), .slice a2 (ls.length + 2 * M) c2]⟩ /\ A = TL /\ TlOk 74 a2 (ls ++ Y1 M) TL) := by
 refine enter bw81_at rfl hs ?_;unfold bw81;have hlen := hL.len;refine rS (kO J (a_box J J J (fun b1 => (kO J (a_new J J (fun b2 => (Q0 (rS (kO J (U2 J (kO J (U1 J (.next .here) J (kO J (Y5 J J (fun s1 h1 => CloneL_n _ al cl ls s1 h1.wf (hL.ext hs h1.2.1) hne (by omega)) (fun v1 A1 q1 => ?_)))))))))))))));obtain ⟨bk3, rfl, rfl⟩ := q1;refine kM J J (Q0 (rQ (rS (kO J (U2 J (kO J (U1 J (.next (.next .here)) J (kM J J (Q0 (Z1 ?_))))))))));rw [show limC ls = limC (ls ++ Y1 0) from by rw [show Y1 0 = [] from rfl, List.append_nil]];refine Z5 (fun j e A => ∃ (i b cp : Nat) (op : Bool), e = [(1, .pointer (some ⟨b1, 0, none⟩)), (2, .pointer (some ⟨b2, 0, none⟩)), (3, .slice (some ⟨b, 0, none⟩) (ls.length + 2 * i) cp), (9, .int .i64 (M : Int)), (10, .int .i64 (i : Int))] /\ A = (.row b 74 op (limC (ls ++ Y1 i)) :: (.row b2 24 false ([.int .i64 0, .slice none 0 0]) :: (.row b1 24 false ([.int .i64 (M : Int), .slice al ls.length cl]) :: []))) /\ j = M - i /\ i <= M /\ Tight op (ls.length + 2 * i) cp) 200 0 281474976710656 ?_ (j := _) (env2 := _) (A2 := _) ?_ ?_ ?_ ?_ ⟨0, bk3, _, _, rfl, rfl, rfl, (by omega), (by first | exact .inl ⟨rfl, rfl⟩ | exact .inr ⟨rfl, rfl, by decide⟩)⟩
 rotate_left
 ·omega
 ·omega
 ·exact (lc 1 J (lc 2 J (lc 3 J (lc 9 J (lc 10 J Less.nil)))))
 ·exact (.q (.q (.q .slnil)))
 rintro n hn j _ _ ⟨i, b, cp, op, rfl, rfl, rfl, hi, hT⟩;refine rS (kO J (Q6 J J (fun h4 => ?_) (fun h4 => ?_)))
 ·refine Q0 (rQ (Y0 J (W1 (W0 (rQ (Z1 (rS (kM J J (kM J J (Q0 (rI (kM J J (kM J J (kO J (Q4 J J (by omega) (kO J (Z7 J J (kM J J (kO J (Q4 J J (by omega) (kO J (Z7 J J (kO J (a_lit J J J (fun b5 => (kO J (a_app J J (Src.own .here rfl (by simp)) (.next .here) (by rw [limC_len, List.length_append, toll_len]) hT (by decide) (by omega) (by omega) (fun b6 => (kM J J (Q0 (V1 ?_)))))))))))))))))))))))))))))))
  refine W0 (rI (kO J (Q4 J J (by omega) (kM J J (Q0 (W0 ?_))))));exact ⟨rfl, _, _, _, (show M - (i + 1) < M - i by omega), (lc 1 J (lc 2 J (lc 3 J (lc 9 J (lc 10 J Less.nil))))), (.q (.cons _ (.q (.q .slnil)))), ⟨i + 1, b6, _, _, rfl, (by rw [<- app_tl]; rfl), rfl, by omega, (.inl ⟨rfl, rfl⟩)⟩⟩
 ·refine Q0 (rQ (U0 J (W5 (W3 (W3 (U3 (W0 (rS (kO J (U2 J (kO J (U1 J (.next (.next .here)) J (kM J J (kO J (Z7 J J (kZ J (Q7 J J (.next .here) J J J J (Q0 (Z3 ?_)))))))))))))))))))
  have hiM : i = M := by omega
  subst hiM;exact endcA J (by decide) (.q (.cons _ (.cons _ .slnil))) (.next .here) J ⟨_, _, _, rfl, rfl, .inr ⟨_, _, rfl, rfl⟩⟩
theorem tolled_e (n : Nat) (M : Nat) (al : Option Addr) (cl : Nat) (s : St) (hs : Wf s) (hn : 562949953421312 <= n) (hsp : ∀ b, al = some b -> b.spot = none) (hcl : al = none -> cl = 0) (hM : M <= 64) : Spec Tryz.prog (tabK tabw) X (n + 500) 81 [.agg ⟨[.int .i64 (M : Int), .slice al 0 cl]⟩] s (fun v A => ∃ a2 c2 TL, v = .agg ⟨[.int .i64 (M : Int), .slice a2 (2 * M) c2]⟩ /\ A = TL /\ TlOk 74 a2 (Y1 M) TL) := by
 refine enter bw81_at rfl hs ?_;unfold bw81;refine rS (kO J (a_box J J J (fun b1 => (kO J (a_new J J (fun b2 => (Q0 (rS (kO J (U2 J (kO J (U1 J (.next .here) J (kO J (Y5 J J (fun s1 h1 => CloneL_e _ al cl s1 h1.wf hsp hcl) (fun v1 A1 q1 => ?_)))))))))))))));rcases q1 with ⟨rfl, rfl⟩ | q1
 ·refine kM J J (Q0 (rQ (rS (kO J (U2 J (kO J (U1 J (.next .here) J (kM J J (Q0 (Z1 (r_unroll (rS (kO J (Q6 J J (fun h4 => ?_) (fun h4 => ?_)))))))))))))))
  ·refine Q0 (rQ (Y0 J (W1 (W0 (rQ (Z1 (rS (kM J J (kM J J (Q0 (rI (kM J J (kM J J (kO J (Q4 J J (by decide) (kO J (Z7 J J (kM J J (kO J (Q4 J J (by decide) (kO J (Z7 J J (kO J (a_lit J J J (fun b5 => (kO J (a_appn J J (Src.own .here rfl (by simp)) (by decide) (by omega) (by omega) (fun b6 => (kM J J (Q0 (V1 ?_)))))))))))))))))))))))))))))))
   refine W0 (rI (kO J (Q4 J J (by decide) (kM J J (Q0 (W0 (Z5 (fun j e A => ∃ (i b cp : Nat) (op : Bool), e = [(1, .pointer (some ⟨b1, 0, none⟩)), (2, .pointer (some ⟨b2, 0, none⟩)), (3, .slice (some ⟨b, 0, none⟩) (2 * i) cp), (9, .int .i64 (M : Int)), (10, .int .i64 (i : Int))] /\ A = (.row b 74 op (limC (Y1 i)) :: (.row b2 24 false ([.int .i64 0, .slice none 0 0]) :: (.row b1 24 false ([.int .i64 (M : Int), .slice al 0 cl]) :: []))) /\ j = M - i /\ i <= M /\ Tight op (2 * i) cp) 200 0 281474976710656 ?_ (j := _) (env2 := _) (A2 := _) ?_ ?_ ?_ ?_ ⟨1, b6, OPEN, true, rfl, rfl, rfl, (by omega), (by first | exact .inl ⟨rfl, rfl⟩ | exact .inr ⟨rfl, rfl, by decide⟩)⟩)))))))
   rotate_left
   ·omega
   ·omega
   ·exact (lc 1 J (lc 2 J (lc 3 J (lc 9 J (lc 10 J Less.nil)))))
   ·rw [limC_1]
    exact (.q (.cons _ (.q (.q .slnil))))
   rintro n hn j _ _ ⟨i, b, cp, op, rfl, rfl, rfl, hi, hT⟩;refine rS (kO J (Q6 J J (fun h7 => ?_) (fun h7 => ?_)))
   ·refine Q0 (rQ (Y0 J (W1 (W0 (rQ (Z1 (rS (kM J J (kM J J (Q0 (rI (kM J J (kM J J (kO J (Q4 J J (by omega) (kO J (Z7 J J (kM J J (kO J (Q4 J J (by omega) (kO J (Z7 J J (kO J (a_lit J J J (fun b8 => (kO J (a_app J J (Src.own .here rfl (by simp)) (.next .here) (by rw [limC_len, toll_len]) hT (by decide) (by omega) (by omega) (fun b9 => (kM J J (Q0 (V1 ?_)))))))))))))))))))))))))))))))
    refine W0 (rI (kO J (Q4 J J (by omega) (kM J J (Q0 (W0 ?_))))));exact ⟨rfl, _, _, _, (show M - (i + 1) < M - i by omega), (lc 1 J (lc 2 J (lc 3 J (lc 9 J (lc 10 J Less.nil))))), (.q (.cons _ (.q (.q .slnil)))), ⟨i + 1, b9, _, _, rfl, (by rw [show limC (Y1 (i + 1)) = _ from (app_tl (ls := [])).symm]; rfl), rfl, by omega, (.inl ⟨rfl, rfl⟩)⟩⟩
   ·refine Q0 (rQ (U0 J (W5 (W3 (W3 (U3 (W0 (rS (kO J (U2 J (kO J (U1 J (.next (.next .here)) J (kM J J (kO J (Z7 J J (kZ J (Q7 J J (.next .here) J J J J (Q0 (Z3 ?_)))))))))))))))))))
    have hiM : i = M := by omega
    subst hiM;exact endcA J (by decide) (.q (.cons _ (.cons _ .slnil))) (.next .here) J ⟨_, _, _, rfl, rfl, .inr ⟨_, _, rfl, rfl⟩⟩
  ·refine Q0 (rQ (U0 J (W5 (W3 (W3 (U3 (W0 (rS (kO J (U2 J (kO J (U1 J (.next .here) J (kM J J (kO J (Z7 J J (kZ J (Q7 J J .here rfl rfl rfl rfl (Q0 (Z3 ?_)))))))))))))))))))
   have hM0 : M = 0 := by omega
   subst hM0;exact endcA J (by decide) (.cons _ (.cons _ .slnil)) .here rfl ⟨_, _, _, rfl, rfl, .inl ⟨rfl, rfl, fun b hb => by cases hb⟩⟩
 ·obtain ⟨bk3, rfl, rfl⟩ := q1
  refine kM J J (Q0 (rQ (rS (kO J (U2 J (kO J (U1 J (.next (.next .here)) J (kM J J (Q0 (Z1 (Z5 (fun j e A => ∃ (i b cp : Nat) (op : Bool), e = [(1, .pointer (some ⟨b1, 0, none⟩)), (2, .pointer (some ⟨b2, 0, none⟩)), (3, .slice (some ⟨b, 0, none⟩) (2 * i) cp), (9, .int .i64 (M : Int)), (10, .int .i64 (i : Int))] /\ A = (.row b 74 op (limC (Y1 i)) :: (.row b2 24 false ([.int .i64 0, .slice none 0 0]) :: (.row b1 24 false ([.int .i64 (M : Int), .slice al 0 cl]) :: []))) /\ j = M - i /\ i <= M /\ Tight op (2 * i) cp) 200 0 281474976710656 ?_ (j := _) (env2 := _) (A2 := _) ?_ ?_ ?_ ?_ ⟨0, bk3, 0, false, rfl, rfl, rfl, (by omega), (by first | exact .inl ⟨rfl, rfl⟩ | exact .inr ⟨rfl, rfl, by decide⟩)⟩)))))))))))
  rotate_left
  ·omega
  ·omega
  ·exact (lc 1 J (lc 2 J (lc 3 J (lc 9 J (lc 10 J Less.nil)))))
  ·rw [limC_0]
   exact (.q (.q (.q .slnil)))
  rintro n hn j _ _ ⟨i, b, cp, op, rfl, rfl, rfl, hi, hT⟩;refine rS (kO J (Q6 J J (fun h10 => ?_) (fun h10 => ?_)))
  ·refine Q0 (rQ (Y0 J (W1 (W0 (rQ (Z1 (rS (kM J J (kM J J (Q0 (rI (kM J J (kM J J (kO J (Q4 J J (by omega) (kO J (Z7 J J (kM J J (kO J (Q4 J J (by omega) (kO J (Z7 J J (kO J (a_lit J J J (fun b11 => (kO J (a_app J J (Src.own .here rfl (by simp)) (.next .here) (by rw [limC_len, toll_len]) hT (by decide) (by omega) (by omega) (fun b12 => (kM J J (Q0 (V1 ?_)))))))))))))))))))))))))))))))
   refine W0 (rI (kO J (Q4 J J (by omega) (kM J J (Q0 (W0 ?_))))));exact ⟨rfl, _, _, _, (show M - (i + 1) < M - i by omega), (lc 1 J (lc 2 J (lc 3 J (lc 9 J (lc 10 J Less.nil))))), (.q (.cons _ (.q (.q .slnil)))), ⟨i + 1, b12, _, _, rfl, (by rw [show limC (Y1 (i + 1)) = _ from (app_tl (ls := [])).symm]; rfl), rfl, by omega, (.inl ⟨rfl, rfl⟩)⟩⟩
  ·refine Q0 (rQ (U0 J (W5 (W3 (W3 (U3 (W0 (rS (kO J (U2 J (kO J (U1 J (.next (.next .here)) J (kM J J (kO J (Z7 J J (kZ J (Q7 J J (.next .here) J J J J (Q0 (Z3 ?_)))))))))))))))))))
   have hiM : i = M := by omega
   subst hiM;exact endcA J (by decide) (.q (.cons _ (.cons _ .slnil))) (.next .here) J ⟨_, _, _, rfl, rfl, .inr ⟨_, _, rfl, rfl⟩⟩
theorem newFlow_g (n : Nat) (M : Nat) (al : Option Addr) (cl nl9 : Nat) (ls : List (List Int)) (s : St) (hs : Wf s) (hn : 844424930131968 <= n) (hL : RowsE s 4 al ls) (hM : M <= 64) (h6 : ls.length <= 600) (hg : Lg M ls) (hnl9 : nl9 = ls.length) : Spec Tryz.prog (tabK tabw) X (n + 900) 66 [.agg ⟨[.int .i64 (M : Int), .slice al nl9 cl]⟩] s (fun v A => ∃ b bt bn O B, v = .pointer (some ⟨b, 0, none⟩) /\ A = nobj B (nl ls ls.length) O ++ [.row b 104 false [.int .i64 (M : Int), .slice al ls.length cl, .slice (some ⟨bt, 0, none⟩) ls.length ls.length, .slice (some ⟨bn, 0, none⟩) (M + 1) (M + 1)], .row bn 25 false (nsl B (nl ls ls.length) (M + 1)), .row bt 3 false (ints (List.replicate ls.length 0))] /\ NO O (M + 1) (nl ls ls.length)) := by
 refine enter bw66_at rfl hs ?_;unfold bw66;subst hnl9;have hlen := hL.len;refine rS (kO J (a_box J J J (fun b1 => (kM J J (Q0 (rS (kO J (U5 J (by decide) .here rfl (kO J (U2 J (kO J (U1 J .here rfl (kO J (a_lenx J hL.spot (kO J (a_mksI (m := ls.length) (c := ls.length) J J (by omega) (by omega) (by omega) (fun b2 => (kO J (U2 J (kO J (U1 J (.next .here) J (kO J (Q4 J J (by omega) (kO J (a_mks1 (m := M + 1) (c := M + 1) J J (by omega) (by omega) (by omega) (fun b3 => (kO J (Z7 J J (kO J (a_box J J J (fun b4 => (kM J J (Q0 (rQ (rS (kO J (U2 J (kO J (U1 J (.next (.next (.next .here))) J (kO J (a_lenx J hL.spot (kM J J ?_))))))))))))))))))))))))))))))))))))))))));refine Q0 (Z1 ?_);rw [nsl_nil (ls := ls) (B := fun _ => 0)];refine Z5 (fun j e A => ∃ (k : Nat) (O : List Nat) (B : Nat -> Nat), e = [(1, .pointer (some ⟨b1, 0, none⟩)), (3, .pointer (some ⟨b4, 0, none⟩)), (18, .slice al ls.length cl), (19, .int .i64 (ls.length : Int)), (20, .int .i64 (k : Int))] /\ A = (nobj B (nl ls k) O ++ (.row b4 104 false ([.int .i64 (M : Int), .slice al ls.length cl, .slice (some ⟨b2, 0, none⟩) ls.length ls.length, .slice (some ⟨b3, 0, none⟩) (M + 1) (M + 1)]) :: (.row b3 25 false (nsl B (nl ls k) (M + 1)) :: (.row b2 3 false (ints (List.replicate ls.length 0)) :: (.row b1 24 false ([.int .i64 (M : Int), .slice al ls.length cl]) :: []))))) /\ j = ls.length - k /\ k <= ls.length /\ NO O (M + 1) (nl ls k) /\ ∀ v, (nl ls k v).length <= k) 600 0 281474976710656 ?_ (j := _) (env2 := _) (A2 := _) ?_ ?_ ?_ ?_ ⟨0, [], fun _ => 0, rfl, rfl, rfl, Nat.zero_le _, NO.zero, (fun _ => Nat.le_refl _)⟩
 rotate_left
 ·omega
 ·omega
 ·exact (lc 1 J (lc 3 J (lc 18 J (lc 19 J (lc 20 J Less.nil)))))
 ·exact (.q (.q (.q (.q .slnil))))
 rintro n hn j _ _ ⟨k, O, B, rfl, rfl, rfl, hk, hO, hnl⟩;refine rS (kO J (Q6 J J (fun h5 => ?_) (fun h5 => ?_)))
 ·obtain ⟨q4, o4, y0, y1, y2, y3, ahL, hx, hat, i0, i1, i2, i3⟩ := hL.row4 (k := k) (by omega)
  have hat2 := hat;obtain ⟨d0, d1, d2, d3, _⟩ := hat2;have := i0.lo; have := i0.hi;have := i1.lo; have := i1.hi;have := i2.lo; have := i2.hi;have := i3.lo; have := i3.hi;obtain ⟨g1, g2, g3, g4, g5, w3, ge⟩ := hg k (by omega);rw [hx] at ge;simp only [Option.some.injEq, List.cons.injEq, and_true] at ge;obtain ⟨e0, e1, e2, e3⟩ := ge;obtain ⟨u0, rfl⟩ : ∃ q : Nat, y0 = (q : Int) := ⟨_, e0⟩;obtain ⟨u1, rfl⟩ : ∃ q : Nat, y1 = (q : Int) := ⟨_, e1⟩;have hl0 := hnl u0;have hl1 := hnl u1;refine Q0 (rQ (Y0 J (W1 (W0 (rQ (Z1 (rS (kM J J (kO J (a_iaA (j := k) ahL rfl rfl (by first | rfl | omega) (by first | decide | omega) (kO J (a_ldar J (by decide) (by assumption) J (kO J (a_new J J (fun b6 => (kM J J (kZ J (Q7 J J .here rfl rfl rfl rfl (Q0 (rS (kM J J (kO J (Q5 J (kO J (U2 J (kO J (U1 J (.next (.app .here)) J (kO J (U2 J (kO J (U1 J .here rfl (kM J J (kO J (Q5 J ?_))))))))))))))))))))))))))))))))));refine kO J (U2 J (kO J (U1 J (.next (.app .here)) J (kO J (U2 J (kO J (U1 J .here rfl (kO J (Y4 (j := u0) J J (by omega) (by omega) (kO J (U1 J (.next (.app (.next .here))) (nsl_get (by omega)) (kM J J (kO J (a_lit J J J (fun b7 => (kO J (a_nap (zs := [_]) J J (Src.own .here rfl (by simp [ints])) (fun h => by rw [nobj_no (show ¬ u0 ∈ O from fun q => (hO.2 _ (by omega)).1 q h)]) (fun h => .next (.next (del_nobj ((hO.2 _ (by omega)).2 h)))) (by omega) (by omega) (fun b8 => (kZ J (a_again J J (.next (.next .here)) J (by simp [eqV, eqA, eqL, kindEq, intEq_eq, V6 hL.spot]) (kZ J (a_again J J (.next (.next (.next (.app .here)))) J (by simp [eqV, eqA, eqL, kindEq, intEq_eq, V6 hL.spot]) (kO J (Y4 (j := u0) J J (by omega) (by omega) (kZ J (a_st J J (by rw [nsl_set (z := (k : Int))]; exact (.next (.next (.next (.app (.next .here)))))) (by rw [Nat.blt_eq, nsl_len]; omega) J (Q0 (rI (kM J J (kO J (Q5 J (kO J (U2 J (kO J (U1 J (.next (.next (.next (.app .here)))) J (kO J (U2 J (kO J (U1 J (.next (.next .here)) J (kM J J (kO J (Q5 J (kO J (U2 J ?_))))))))))))))))))))))))))))))))))))))))))));refine kO J (U1 J (.next (.next (.next (.app .here)))) J (kO J (U2 J (kO J (U1 J (.next (.next .here)) J (kO J (Y4 (j := u1) J J (by omega) (by omega) (kO J (U1 J (.next (.next (.next (.app (.next .here))))) (by rw [nsl_get (by omega), nsv_ne (by omega)]) (kM J J (kO J (a_lit J J J (fun b9 => (kO J (a_nap (zs := [_]) J J (Src.own .here rfl (by simp [ints])) (fun h => by rw [nobj_no (show ¬ u1 ∈ O.erase u0 from fun q => (hO.2 _ (by omega)).1 (List.mem_of_mem_erase q) h)]) (fun h => .next (.next (.next (.next (del_nobj ((List.mem_erase_of_ne (by omega)).2 ((hO.2 _ (by omega)).2 h))))))) (by omega) (by omega) (fun b10 => (kZ J (a_again J J (.next (.next (.next (.next .here)))) J (by simp [eqV, eqA, eqL, kindEq, intEq_eq, V6 hL.spot]) (kZ J (a_again J J (.next (.next (.next (.next (.next (.app .here)))))) J (by simp [eqV, eqA, eqL, kindEq, intEq_eq, V6 hL.spot]) (kO J (Y4 (j := u1) J J (by omega) (by omega) (kZ J (a_st J J (by rw [nsl_set2 (show ¬ u1 = u0 by omega) (z := (k : Int))]; exact (.next (.next (.next (.next (.next (.app (.next .here)))))))) (by rw [Nat.blt_eq, nsl_len]; omega) J (Q0 (V1 (W0 (rI (kO J (Q4 J J (by omega) (kM J J (Q0 (W0 ?_)))))))))))))))))))))))))))))))));have hst := nl_step hx (by omega);exact ⟨rfl, _, _, _, (show ls.length - (k + 1) < ls.length - k by omega), (lc 1 J (lc 3 J (lc 18 J (lc 19 J (lc 20 J Less.nil))))), (.q (.cons _ (.q (.cons _ (.cons _ (.r (.q (.q (.q (.q .slnil)))))))))), ⟨k + 1, (u1 :: (u0 :: O.erase u0).erase u1), updB (updB B u0 b8) u1 b10, rfl, (by rw [hst]; exact nobj_two hO.1 (by omega)), rfl, by omega, (by rw [hst]; exact (hO.put (by simp)).put2 (by omega) (by simp)), (fun v => nl_len hnl v)⟩⟩
 ·refine Q0 (rQ (U0 J (W5 (W3 (W3 (U3 (W0 (rS (kM J J (kM J J (Q0 (Z3 ?_))))))))))))
  have hkN : k = ls.length := by omega
  subst hkN;exact end1A J (.r (.q (.q (.q (.cons _ .slnil))))) ⟨_, _, _, O, B, rfl, rfl, hO⟩
theorem Max_s (n : Nat) (ax : Option Addr) (cx : Nat) (x : List Int) (s : St) (hs : Wf s) (hn : 281474976710656 <= n) (hX : IntsE s ax x) (h0 : 0 < x.length) : Spec Tryz.prog (tabK tabw) X (n + 300) 109 [.slice ax x.length cx] s (fun v A => v = .int .i64 (mxV x (x.length - 1)) /\ A = []) := by
 refine enter bw109_at rfl hs ?_;unfold bw109;have hlen := hX.len;refine rS (kM J J (Q0 (rQ (rS (kM J J (kO J (a_lenx J hX.spot (kO J (Q6 J J (fun h1 => ?_) (fun h1 => ?_))))))))))
 ·exfalso; omega
 ·refine Q0 (U0 J (W1 (W0 (rS (kM J J (kO J (Q8 (j := 0) hX rfl rfl (by omega) (by first | rfl | omega) (by omega) (fun _ _ a2 => (kO J (W7 J (hX.at a2 (by omega)) (kM J J (Q0 (rQ (rS (kM J J (Q0 (Z1 (Z5 (fun j e A => ∃ (k : Nat), e = [(0, .slice ax x.length cx), (3, .int .i64 (mxV x k)), (4, .int .i64 ((k + 1 : Nat) : Int))] /\ A = [] /\ j = x.length - k /\ k + 1 <= x.length) 150 0 281474976710656 ?_ (j := _) (env2 := _) (A2 := _) ?_ ?_ ?_ ?_ ⟨0, rfl, rfl, rfl, (by omega)⟩))))))))))))))))))
  rotate_left
  ·omega
  ·omega
  ·exact (lc 0 J (lc 3 J (lc 4 J Less.nil)))
  ·exact .slnil
  rintro n hn j _ _ ⟨k, rfl, rfl, rfl, hk⟩;refine rQ (rS (kM J J (kM J J (kO J (a_lenx J hX.spot (kO J (Q6 J J (fun h3 => ?_) (fun h3 => ?_))))))))
  ·refine Q0 (Y0 J (W1 (W0 (rQ (Z1 (rI (kM J J (kM J J (kM J J (kO J (Q8 (j := (k + 1)) hX rfl rfl (by omega) (by first | rfl | omega) (by omega) (fun _ _ a4 => (kO J (W7 J (hX.at a4 (by omega)) (kO J (a_max J (kM J J (Q0 (V1 (W0 (rI (kM J J (kO J (Q4 J J (by omega) (kM J J (Q0 (W0 ?_)))))))))))))))))))))))))))
   exact ⟨rfl, _, _, _, (show x.length - (k + 1) < x.length - k by omega), (lc 0 J (lc 3 J (lc 4 J Less.nil))), .slnil, ⟨k + 1, rfl, rfl, rfl, by omega⟩⟩
  ·refine Q0 (U0 J (W5 (W3 (W3 (U3 (W0 (rS (kM J J (kM J J (Q0 (Z3 ?_)))))))))))
   have hkx : k = x.length - 1 := by omega
   subst hkx;exact end1 J ⟨rfl, rfl⟩
end
theorem itr_root2 {ls : List (List Int)} {M : Nat} {c : Nat -> Nat × Nat × Nat × Int} {x : Nat -> Int} {t rd : Nat -> Nat} (hl : lmB (M : Int) ls = true) (hc : ∀ a, a < M + 1 -> (c a).2.1 < M + 1) (hz : ∀ a, a < M + 1 -> rd a = 0 -> x a = 0)
 (hp : ∀ b, b < M + 1 -> 0 < rd b -> Pq ls x t rd (c b) b) (hx : ∀ i, i < ls.length -> x (lb ls i) <= x (la ls i) + lw ls i) {v : Nat} (hv : v < M + 1) : -20000 * (M : Int) <= x v := by
 have step : ∀ j, 0 < rd (itr c v j) -> t (itr c v (j + 1)) < t (itr c v j) /\ x (itr c v (j + 1)) - 20000 <= x (itr c v j) := fun j hj => by
  obtain ⟨h1, h2, h3, h4, h5, h6⟩ := hp _ (itr_lt hc hv j) hj;have h7 := hx _ h1;rw [h2, h3] at h7;have h8 := (lw_bd' hl h1).1;exact ⟨h5 (by omega), by show x (c (itr c v j)).2.1 - 20000 <= _; omega⟩
 have down : ∀ j, (∀ i, i < j -> 0 < rd (itr c v i)) -> x (itr c v j) - 20000 * (j : Int) <= x v /\ ∀ i, i < j -> t (itr c v j) < t (itr c v i) := by
  intro j
  induction j with
  | zero => intro _; exact ⟨by show x v - 20000 * 0 <= x v; omega, fun i hi => absurd hi (Nat.not_lt_zero i)⟩
  | succ j ih =>
   intro h;obtain ⟨h1, h2⟩ := ih (fun i hi => h i (by omega));obtain ⟨h3, h4⟩ := step j (h j (by omega));refine ⟨by omega, fun i hi => ?_⟩;by_cases q : i = j
   ·rw [q]; exact h3
   ·have := h2 i (by omega); omega
 have hex : ∃ k, k <= M /\ rd (itr c v k) = 0 /\ ∀ i, i < k -> 0 < rd (itr c v i) := by
  refine Classical.byContradiction (fun q => ?_);have all : ∀ k, k <= M -> 0 < rd (itr c v k) := by
   intro k
   induction k using Nat.strongRecOn with
   | ind k ih =>
    intro hk;refine Nat.pos_of_ne_zero (fun z => q ⟨k, hk, z, fun i hi => ih i hi (by omega)⟩)
  obtain ⟨i, j, hij, hj, e⟩ := pigeon (M + 1) (itr c v) (fun i _ => itr_lt hc hv i);have := (down j (fun i hi => all i (by omega))).2 i hij;rw [e] at this;omega
 obtain ⟨k, h1, h2, h3⟩ := hex;have h4 := (down k h3).1;have h5 := hz _ (itr_lt hc hv k) h2;omega
theorem mv_pt {ls : List (List Int)} {M r : Nat} {wm : List Int} (hl : lmB (M : Int) ls = true) (h4 : ls.length <= 400) (hM : M <= 64) (hr : r < M + 1) (e : (stl ls (M + 1) (r + 1)).l = -1) (hm : Mvd (xs (stl ls (M + 1) (r + 1)).x (M + 1)) wm (-((stl ls (M + 1) (r + 1)).x 0)) (xs (stl ls (M + 1) (r + 1)).x (M + 1)).length) :
 ∃ p0 : Nat -> Int, wm = xs p0 (M + 1) /\ (∀ i, i < ls.length -> p0 (lb ls i) <= p0 (la ls i) + lw ls i) /\ (∀ v, v < M + 1 -> -1280000 <= p0 v /\ p0 v <= 1280000) /\ p0 0 = 0 := by
 obtain ⟨e2, h2⟩ := lws_l (s := st0 (stl ls (M + 1) r)) hl e;have e3 : (stl ls (M + 1) (r + 1)).x = (stl ls (M + 1) r).x := by
  show (lwS ls (st0 (stl ls (M + 1) r)) (M + 1)).x = _;rw [e2]; rfl
 have hI := Iv.stl hl h4 hM (r := r) (by omega);have hb := hI.bd;have hx : ∀ i, i < ls.length -> (stl ls (M + 1) r).x (lb ls i) <= (stl ls (M + 1) r).x (la ls i) + lw ls i := fun i hi => by
  have hL := lim_of hl hi;exact h2 (la ls i) hL.ha (by have := hb (la ls i) hL.ha; show ¬ (stl ls (M + 1) r).x (la ls i) = 1000000000; omega) i hi rfl
 obtain ⟨rd, t, T, g1, _⟩ := Gh.stl hl h4 hM (r := r) (by omega);have hlo : ∀ a, a < M + 1 -> -20000 * (M : Int) <= (stl ls (M + 1) r).x a := fun a ha => itr_root2 hl hI.par g1.zr g1.par hx ha
 rw [e3] at hm;obtain ⟨m1, m2⟩ := hm;rw [W4] at m1 m2;refine ⟨fun v => wm.getD v 0, ?_, fun i hi => ?_, fun v hv => ?_, ?_⟩
 ·refine List.ext_getElem? (fun j => ?_)
  by_cases hj : j < M + 1
  ·unfold xs
   rw [List.getElem?_map, List.getElem?_range hj, List.getElem?_eq_getElem (show j < wm.length by omega)];simp [List.getD_eq_getElem?_getD, List.getElem?_eq_getElem (show j < wm.length by omega)]
  ·rw [List.getElem?_eq_none (by omega), List.getElem?_eq_none (by rw [W4]; omega)]
 ·have hL := lim_of hl hi
  have h6 := hx i hi;have h7 := m2 _ hL.ha;have h8 := m2 _ hL.hb;rw [V4 hL.ha] at h7;rw [V4 hL.hb] at h8;show wm.getD _ 0 <= wm.getD _ 0 + _;omega
 ·have h7 := m2 v hv
  rw [V4 hv] at h7;have h8 := hlo v hv;have h9 := hlo 0 (by omega);have h10 := (hb v hv).2;have h11 := (hb 0 (by omega)).2;show -1280000 <= wm.getD v 0 /\ wm.getD v 0 <= 1280000;omega
 ·have h7 := m2 0 (by omega)
  rw [V4 (by omega)] at h7;show wm.getD 0 0 = 0;omega
theorem xs_of {w : List Int} {n : Nat} (h : w.length = n) : w = xs (fun v => w.getD v 0) n := by
 refine List.ext_getElem? (fun j => ?_);by_cases hj : j < n
 ·unfold xs
  rw [List.getElem?_map, List.getElem?_range hj, List.getElem?_eq_getElem (show j < w.length by omega)];simp [List.getD_eq_getElem?_getD, List.getElem?_eq_getElem (show j < w.length by omega)]
 ·rw [List.getElem?_eq_none (by omega), List.getElem?_eq_none (by rw [W4]; omega)]
theorem rep_xs0 {n : Nat} : List.replicate n (0 : Int) = xs (fun _ => 0) n := by unfold xs; rw [List.map_const', List.length_range]
theorem xs_ext {f g : Nat -> Int} {n : Nat} (h : ∀ j, j < n -> f j = g j) : xs f n = xs g n := List.map_congr_left (fun j hj => h j (List.mem_range.1 hj))
def pw (w : List Int) : Nat -> Int
 | 0 => 0
 | k + 1 => pw w k + (w.drop 1).getD k 0
def du0 (w : List Int) (k : Nat) : Nat -> Int := Z2 (fun v => w.getD v 0) 0 (0 - pw w k)
theorem drop_get {w : List Int} {k : Nat} : (w.drop 1).getD k 0 = w.getD (k + 1) 0 := by
 rw [List.getD_eq_getElem?_getD, List.getD_eq_getElem?_getD, List.getElem?_drop, Nat.add_comm]
theorem pw_bd {w : List Int} : ∀ {k : Nat}, -(szs w (k + 1)) + max (w.getD 0 0) (-(w.getD 0 0)) <= pw w k /\ pw w k <= szs w (k + 1) - max (w.getD 0 0) (-(w.getD 0 0))
 | 0 => by
  show -(0 + max (w.getD 0 0) (-(w.getD 0 0))) + max (w.getD 0 0) (-(w.getD 0 0)) <= 0 /\ (0 : Int) <= 0 + max (w.getD 0 0) (-(w.getD 0 0)) - max (w.getD 0 0) (-(w.getD 0 0));omega
 | k + 1 => by
  have ih := pw_bd (w := w) (k := k);show -(szs w (k + 1) + max (w.getD (k + 1) 0) (-(w.getD (k + 1) 0))) + max (w.getD 0 0) (-(w.getD 0 0)) <= pw w k + (w.drop 1).getD k 0 /\ pw w k + (w.drop 1).getD k 0 <= szs w (k + 1) + max (w.getD (k + 1) 0) (-(w.getD (k + 1) 0)) - max (w.getD 0 0) (-(w.getD 0 0));rw [drop_get];omega
theorem du_step {w : List Int} {k : Nat} : Z2 (du0 w k) 0 (du0 w k 0 - (w.drop 1).getD k 0) = du0 w (k + 1) := by
 funext v
 unfold du0;by_cases e : v = 0
 ·subst e
  rw [V2, V2, V2];show _ = 0 - (pw w k + (w.drop 1).getD k 0);omega
 ·rw [Q1 e, Q1 e, Q1 e]
theorem du_tot {w : List Int} : ∀ {M : Nat}, tot (du0 w M) (M + 1) = 0 := by
 have key : ∀ M k, tot (du0 w M) (k + 1) = pw w k - pw w M := by
  intro M k
  induction k with
  | zero => show 0 + du0 w M 0 = _; unfold du0; rw [V2]; show _ = 0 - _; omega
  | succ k ih =>
   show tot (du0 w M) (k + 1) + du0 w M (k + 1) = pw w k + (w.drop 1).getD k 0 - _;rw [ih, drop_get];unfold du0;rw [Q1 (by omega)]; omega
 intro M;rw [key]; omega
theorem du_pos {w : List Int} {M : Nat} (hw : w.length = M + 1) (h : WOk w w.length) : posS (du0 w M) (M + 1) <= 3600000000000 /\ ∀ v, v < M + 1 -> -3600000000000 <= du0 w M v /\ du0 w M v <= 3600000000000 := by
 have hz := wok_le h (k := M + 1) (by omega);have hp := pw_bd (w := w) (k := M);have hneg : ∀ k, posS (du0 w M) (k + 1) <= max (0 - pw w M) 0 + (szs w (k + 1) + pw w k - max (w.getD 0 0) (-(w.getD 0 0))) /\ 0 <= szs w (k + 1) + pw w k - max (w.getD 0 0) (-(w.getD 0 0)) := by
  intro k
  induction k with
  | zero =>
   show 0 + max (du0 w M 0) 0 <= max (0 - pw w M) 0 + (0 + max (w.getD 0 0) (-(w.getD 0 0)) + 0 - max (w.getD 0 0) (-(w.getD 0 0))) /\ 0 <= 0 + max (w.getD 0 0) (-(w.getD 0 0)) + 0 - max (w.getD 0 0) (-(w.getD 0 0));unfold du0;rw [V2]; omega
  | succ k ih =>
   have e : du0 w M (k + 1) = w.getD (k + 1) 0 := Q1 (by omega);show posS (du0 w M) (k + 1) + max (du0 w M (k + 1)) 0 <= _ + (szs w (k + 1) + max (w.getD (k + 1) 0) (-(w.getD (k + 1) 0)) + (pw w k + (w.drop 1).getD k 0) - _) /\ 0 <= szs w (k + 1) + max (w.getD (k + 1) 0) (-(w.getD (k + 1) 0)) + (pw w k + (w.drop 1).getD k 0) - _;rw [e, drop_get];omega
 have hn := hneg M;have hsm : ∀ k, k <= M -> max (w.getD k 0) (-(w.getD k 0)) <= 3600000000000 := fun k hk => by
  have h1 := h k (by omega);have h2 := szs_pos (w := w) (k := k);have h3 : szs w k + max (w.getD k 0) (-(w.getD k 0)) <= 3600000000000 := h1;omega
 refine ⟨?_, fun v hv => ?_⟩
 ·-- what all are to get is what all are to give
  have hM0 : posS (du0 w M) (M + 1) <= szs w (M + 1) - max (w.getD 0 0) (-(w.getD 0 0)) := by
   have hneg2 : ∀ k, k <= M -> posS (du0 w M) (k + 1) <= max (0 - pw w M) 0 + posS (fun v => w.getD (v + 1) 0) k := by
    intro k
    induction k with
    | zero => intro _; show 0 + max (du0 w M 0) 0 <= _ + 0; unfold du0; rw [V2]; omega
    | succ k ih =>
     intro hk;have := ih (by omega);have e : du0 w M (k + 1) = w.getD (k + 1) 0 := Q1 (by omega);show posS (du0 w M) (k + 1) + max (du0 w M (k + 1)) 0 <= _ + (posS _ k + max (w.getD (k + 1) 0) 0);rw [e]; omega
   have hsum : ∀ k, posS (fun v => w.getD (v + 1) 0) k <= szs w (k + 1) - max (w.getD 0 0) (-(w.getD 0 0)) /\ posS (fun v => w.getD (v + 1) 0) k - pw w k <= szs w (k + 1) - max (w.getD 0 0) (-(w.getD 0 0)) := by
    intro k
    induction k with
    | zero => show (0 : Int) <= 0 + max (w.getD 0 0) (-(w.getD 0 0)) - max (w.getD 0 0) (-(w.getD 0 0)) /\ (0 : Int) - 0 <= 0 + max (w.getD 0 0) (-(w.getD 0 0)) - max (w.getD 0 0) (-(w.getD 0 0)); omega
    | succ k ih =>
     show posS _ k + max (w.getD (k + 1) 0) 0 <= szs w (k + 1) + max (w.getD (k + 1) 0) (-(w.getD (k + 1) 0)) - _ /\ posS _ k + max (w.getD (k + 1) 0) 0 - (pw w k + (w.drop 1).getD k 0) <= szs w (k + 1) + max (w.getD (k + 1) 0) (-(w.getD (k + 1) 0)) - _;rw [drop_get]; omega
   have h1 := hneg2 M (Nat.le_refl _);have h2 := hsum M;omega
  omega
 ·by_cases e : v = 0
  ·subst e
   unfold du0;rw [V2]; omega
  ·unfold du0
   rw [Q1 e];have := hsm v (by omega);omega
def pwr : Nat -> Int
 | 0 => 0
 | 1 => 1
 | e + 2 => pwr (e + 1) * 64
theorem pwr_pos : ∀ {e : Nat}, 0 < pwr (e + 1)
 | 0 => by decide
 | e + 1 => by have := pwr_pos (e := e); show 0 < pwr (e + 1) * 64; omega
theorem pwr_div : ∀ {e : Nat}, (pwr (e + 1)).tdiv 64 = pwr e
 | 0 => rfl
 | e + 1 => by show (pwr (e + 1) * 64).tdiv 64 = _; exact Int.mul_tdiv_cancel _ (by decide)
theorem pwr_dvd : ∀ {e : Nat}, pwr (e + 1) ∣ pwr (e + 2)
 | e => ⟨64, rfl⟩
theorem pwr_le : ∀ {e : Nat}, pwr (e + 1) <= 3600000000000 -> e <= 6 := fun {e} h => by
 refine Classical.byContradiction (fun q => ?_);have key : ∀ d, pwr 8 <= pwr (8 + d) := by
  intro d
  induction d with
  | zero => exact Int.le_refl _
  | succ d ih =>
   have h1 : pwr (8 + (d + 1)) = pwr (8 + d) * 64 := by
    rw [show 8 + (d + 1) = (7 + d) + 2 by omega, show 8 + d = (7 + d) + 1 by omega]; rfl
   have h2 : (0 : Int) < pwr 8 := by decide
   omega
 have h1 := key (e - 7);rw [show 8 + (e - 7) = e + 1 by omega] at h1;have h2 : pwr 8 = 4398046511104 := by decide
 omega
def bs (e : Nat) : Int := 1280000 + 2560002 * (8 - (e : Int))
theorem q64 {a : Int} (h : -3600000000000 <= a /\ a <= 3600000000000) : (-9223372036854775808 <= a.tdiv 64 /\ a.tdiv 64 < 9223372036854775808) /\ (1 <= a.tdiv 64 -> a.tdiv 64 * 64 <= a) := by
 rcases Int.lt_or_le a 0 with q | q
 ·have e : a.tdiv 64 = -((-a).tdiv 64) := by rw [Int.neg_tdiv, Int.neg_neg]
  rw [e, Int.tdiv_eq_ediv_of_nonneg (by omega)];omega
 ·rw [Int.tdiv_eq_ediv_of_nonneg q]
  omega
def stT (D : Nat -> Int) (P : Int) : Nat -> Tp
 | 0 => tp0
 | k + 1 => if D k <= -P then ⟨Z2 (Z2 (stT D P k).pr k 1000000000) k 0, Z2 (stT D P k).cm k ⟨((stT D P k).cm k).lim, ((stT D P k).cm k).bk, -1, ((stT D P k).cm k).to, ((stT D P k).cm k).ms⟩, (stT D P k).lf⟩ else ⟨Z2 (stT D P k).pr k 1000000000, (stT D P k).cm, (stT D P k).lf⟩
theorem st_yes {D : Nat -> Int} {P : Int} {k : Nat} (h : D k <= -P) : (⟨Z2 (Z2 (stT D P k).pr k 1000000000) k 0, Z2 (stT D P k).cm k ⟨((stT D P k).cm k).lim, ((stT D P k).cm k).bk, -1, ((stT D P k).cm k).to, ((stT D P k).cm k).ms⟩, (stT D P k).lf⟩ : Tp) = stT D P (k + 1) := (if_pos h).symm
theorem st_no {D : Nat -> Int} {P : Int} {k : Nat} (h : ¬ D k <= -P) : (⟨Z2 (stT D P k).pr k 1000000000, (stT D P k).cm, (stT D P k).lf⟩ : Tp) = stT D P (k + 1) := (if_neg h).symm
theorem st_at {D : Nat -> Int} {P : Int} : ∀ {k : Nat}, (∀ v, v < k -> (stT D P k).pr v = if D v <= -P then 0 else 1000000000) /\ (∀ v, v < k -> D v <= -P -> ((stT D P k).cm v).fr = -1) /\ ∀ v, (stT D P k).lf v = false
 | 0 => ⟨fun v hv => absurd hv (Nat.not_lt_zero v), fun v hv => absurd hv (Nat.not_lt_zero v), fun _ => rfl⟩
 | k + 1 => by
  obtain ⟨h1, h2, h3⟩ := st_at (D := D) (P := P) (k := k);by_cases c : D k <= -P
  ·rw [<- st_yes c]
   refine ⟨fun v hv => ?_, fun v hv hd => ?_, h3⟩
   ·show Z2 (Z2 (stT D P k).pr k 1000000000) k 0 v = _
    by_cases e : v = k
    ·subst e; rw [V2, if_pos c]
    ·rw [Q1 e, Q1 e]; exact h1 v (by omega)
   ·show (Z2 (stT D P k).cm k ⟨((stT D P k).cm k).lim, ((stT D P k).cm k).bk, -1, ((stT D P k).cm k).to, ((stT D P k).cm k).ms⟩ v).fr = _
    by_cases e : v = k
    ·subst e; rw [V2]
    ·rw [Q1 e]; exact h2 v (by omega) hd
  ·rw [<- st_no c]
   refine ⟨fun v hv => ?_, fun v hv hd => ?_, h3⟩
   ·show Z2 (stT D P k).pr k 1000000000 v = _
    by_cases e : v = k
    ·subst e; rw [V2, if_neg c]
    ·rw [Q1 e]; exact h1 v (by omega)
   ·by_cases e : v = k
    ·subst e; exact absurd hd c
    ·exact h2 v (by omega) hd
def Nr (g : Tp) (k : Nat) (z y : Int) : Prop := (z = -1 /\ y = 1000000000 /\ ∀ v, v < k -> g.lf v = false -> 1000000000 <= g.pr v) ∨ ∃ u : Nat, u < k /\ z = (u : Int) /\ g.lf u = false /\ y = g.pr u /\ y < 1000000000 /\ ∀ v, v < k -> g.lf v = false -> g.pr u <= g.pr v
theorem nr_zero {g : Tp} : Nr g 0 (-1) 1000000000 := .inl ⟨rfl, rfl, fun v hv => absurd hv (Nat.not_lt_zero v)⟩
theorem nr_left {g : Tp} {k : Nat} {z y : Int} (h : Nr g k z y) (hl : g.lf k = true) : Nr g (k + 1) z y := by
 have ex : ∀ v, v < k + 1 -> g.lf v = false -> v < k := fun v hv hf => by
  by_cases e : v = k
  ·rw [e, hl] at hf; cases hf
  ·omega
 rcases h with ⟨h1, h2, h3⟩ | ⟨u, h1, h2, h3, h4, h5, h6⟩
 ·exact .inl ⟨h1, h2, fun v hv hf => h3 v (ex v hv hf) hf⟩
 ·exact .inr ⟨u, by omega, h2, h3, h4, h5, fun v hv hf => h6 v (ex v hv hf) hf⟩
theorem nr_far {g : Tp} {k : Nat} {z y : Int} (h : Nr g k z y) (hy : ¬ g.pr k < y) : Nr g (k + 1) z y := by
 rcases h with ⟨h1, h2, h3⟩ | ⟨u, h1, h2, h3, h4, h5, h6⟩
 ·exact .inl ⟨h1, h2, fun v hv hf => by
   by_cases e : v = k; · subst e; omega
   ·exact h3 v (by omega) hf⟩
 ·exact .inr ⟨u, by omega, h2, h3, h4, h5, fun v hv hf => by
   by_cases e : v = k; · subst e; omega
   ·exact h6 v (by omega) hf⟩
theorem nr_near {g : Tp} {k : Nat} {z y : Int} (h : Nr g k z y) (hl : g.lf k = false) (hy : g.pr k < y) : Nr g (k + 1) (k : Int) (g.pr k) := by
 rcases h with ⟨h1, h2, h3⟩ | ⟨u, h1, h2, h3, h4, h5, h6⟩
 ·exact .inr ⟨k, by omega, rfl, hl, rfl, by omega, fun v hv hf => by
   by_cases e : v = k; · subst e; exact Int.le_refl _
   ·have := h3 v (by omega) hf; omega⟩
 ·exact .inr ⟨k, by omega, rfl, hl, rfl, by omega, fun v hv hf => by
   by_cases e : v = k; · subst e; exact Int.le_refl _
   ·have := h6 v (by omega) hf; omega⟩
theorem rw_skip {ts : List (List Int)} {t p : Nat -> Int} {g : Tp} {v q i : Nat} (hi : (nl ts ts.length v).getD q 0 = (i : Int)) (hb : lb ts i = v) (ht : t i = 0) : rwT ts t p g v (q + 1) = rwT ts t p g v q := by
 show rxT ts t p _ v ((nl ts ts.length v).getD q 0).toNat = _;rw [hi, Int.toNat_natCast];unfold rxT;rw [if_pos hb, if_pos ht]
theorem rw_back {ts : List (List Int)} {t p : Nat -> Int} {g : Tp} {v q i : Nat} (hi : (nl ts ts.length v).getD q 0 = (i : Int)) (hb : lb ts i = v) (ht : ¬ t i = 0) : rwT ts t p g v (q + 1) = upT p (rwT ts t p g v q) v i true (la ts i) (-(lw ts i)) := by
 show rxT ts t p _ v ((nl ts ts.length v).getD q 0).toNat = _;rw [hi, Int.toNat_natCast];unfold rxT;rw [if_pos hb, if_neg ht]
theorem rw_fwd {ts : List (List Int)} {t p : Nat -> Int} {g : Tp} {v q i : Nat} (hi : (nl ts ts.length v).getD q 0 = (i : Int)) (hb : ¬ lb ts i = v) : rwT ts t p g v (q + 1) = upT p (rwT ts t p g v q) v i false (lb ts i) (lw ts i) := by
 show rxT ts t p _ v ((nl ts ts.length v).getD q 0).toNat = _;rw [hi, Int.toNat_natCast];unfold rxT;rw [if_neg hb]
theorem up_yes {p : Nat -> Int} {g : Tp} {v i to : Nat} {bk : Bool} {ms : Int} (h : g.pr v + ms + p v - p to < g.pr to) : (⟨Z2 g.pr to (g.pr v + ms + p v - p to), Z2 g.cm to ⟨i, bk, (v : Int), to, ms⟩, g.lf⟩ : Tp) = upT p g v i bk to ms := (if_pos h).symm
theorem up_no {p : Nat -> Int} {g : Tp} {v i to : Nat} {bk : Bool} {ms : Int} (h : ¬ g.pr v + ms + p v - p to < g.pr to) : g = upT p g v i bk to ms := (if_neg h).symm
def ptK (p : Nat -> Int) (g : Tp) (u k : Nat) : Nat -> Int := fun v => if v < k then ptN p g u v else p v
theorem ptK_zero {p : Nat -> Int} {g : Tp} {u n : Nat} : xs p n = xs (ptK p g u 0) n := xs_ext (fun j _ => (if_neg (Nat.not_lt_zero j)).symm)
theorem ptK_at {p : Nat -> Int} {g : Tp} {u k : Nat} : ptK p g u k k = p k := if_neg (Nat.lt_irrefl k)
theorem ptK_step {p : Nat -> Int} {g : Tp} {u k : Nat} : Z2 (ptK p g u k) k (ptK p g u k k + min (g.pr k) (g.pr u)) = ptK p g u (k + 1) := by
 funext v
 unfold Z2;by_cases e : v = k
 ·subst e
  rw [if_pos rfl, ptK_at];exact (if_pos (Nat.lt_succ_self v)).symm
 ·rw [if_neg e]
  unfold ptK;by_cases c : v < k
  ·rw [if_pos c, if_pos (show v < k + 1 by omega)]
  ·rw [if_neg c, if_neg (show ¬ v < k + 1 by omega)]
theorem ptK_end {p : Nat -> Int} {g : Tp} {u n : Nat} : xs (ptK p g u n) n = xs (ptN p g u) n := xs_ext (fun j hj => if_pos hj)
def Rv3 (σ τ : Nat -> Cm) (m i : Nat) : Prop := ∀ t, t <= m -> τ t = if t < i ∨ m < t + i then σ (m - t) else σ t
theorem Rv3.zero {σ : Nat -> Cm} {m : Nat} : Rv3 σ σ m 0 := fun t ht => by rw [if_neg (by omega)]
theorem Rv3.step {σ τ : Nat -> Cm} {m i : Nat} (h : Rv3 σ τ m i) (hi : i < m - i) : Rv3 σ (Z2 (Z2 τ i (τ (m - i))) (m - i) (τ i)) m (i + 1) := fun t ht => by
 have e1 := h i (by omega);have e2 := h (m - i) (by omega);have e3 := h t ht;rw [if_neg (by omega)] at e1 e2;by_cases q1 : t = m - i
 ·subst q1; rw [V2, if_pos (by omega), e1]; congr 1; omega
 ·rw [Q1 q1]
  by_cases q2 : t = i
  ·subst q2; rw [V2, if_pos (by omega), e2]
  ·rw [Q1 q2, e3]
   by_cases q3 : t < i ∨ m < t + i
   ·rw [if_pos q3, if_pos (by omega)]
   ·rw [if_neg q3, if_neg (by omega)]
theorem Rv3.done {σ τ : Nat -> Cm} {m i : Nat} (h : Rv3 σ τ m i) (hi : ¬ i < m - i) : ∀ t, t <= m -> τ t = σ (m - t) := fun t ht => by
 rw [h t ht];split
 ·rfl
 ·congr 1; omega
theorem slc_opd {row : Nat -> Option (Nat × Nat × Bool)} {b n l k : Nat} (hr : row b = some (k, 3, true)) (hn : n <= k) (hl : l <= n) (h0 : 0 < n) : evSlc row 3 1 (.slice (some ⟨b, 0, none⟩) n OPEN) (some (.int .i64 (l : Int))) none none = some (.slice (some ⟨b, 0 + l * 1, none⟩) (n - l) (OPEN + (0 + l))) := by
 have hb : Nat.beq n 0 = false := beqF (by omega);show (match row b with
  | some (k, e', op) => sel (op && Nat.beq 3 e' && Nat.beq 0 ((OPEN - OPEN) * 1) && !Nat.beq 1 0 && (Nat.beq OPEN OPEN || !Nat.beq n 0)) (evSlcOpen b 1 l n k (OPEN - OPEN) none) none
  | none => none) = _
 rw [hr];show sel (Nat.ble l n && Nat.ble ((0 + n) * 1) k) (some (Value.slice (some ⟨b, (0 + l) * 1, none⟩) (n - l) (OPEN + (0 + l)))) none = _;rw [show Nat.ble l n = true from by rw [Nat.ble_eq]; exact hl, show Nat.ble ((0 + n) * 1) k = true from by rw [Nat.ble_eq]; omega, show (0 + l) * 1 = 0 + l * 1 by omega];rfl
theorem a_slcD {P : Program} {C : Nat -> (CF -> Bool) -> Bool} {X : FuncId -> List Value -> St -> (Value -> St -> Bool) -> Bool} {s0 : St} {n nt : Nat} {env : List (Nat × Value)} {A : List Ob} {R : Value -> List Ob -> Prop} {x lo : Ev.X} {a : Option Addr} {l : List Int} {c : Nat} (hl : IntsE s0 a l) (hx : xv env x = some (.slice a l.length c)) (hlo : xv env lo = some (.int .i64 1)) (h0 : 0 < l.length) (hc : CapOk s0 a l.length c)
 (hR : ∀ a' c', IntsE s0 a' (l.drop 1) -> R (.slice a' (l.drop 1).length c') A) : OpA P C X s0 n nt (.slc 3 1 x (some lo) none none) env A R := .mk fun s hs T hT k hk => by
 obtain ⟨b, o, rfl⟩ := hl.addr (by rintro rfl; simp at h0);refine Z6 hT (k := fun x => valOK T (some lo) (fun lo => valOK T none (fun hi => valOK T none (fun mx => slcK s 3 1 x lo hi mx (vK s k))))) hx ?_;refine Z6 hT (k := fun v => slcK s 3 1 _ (some v) none none (vK s k)) hlo ?_;unfold slcK;have hld : (l.drop 1).length = l.length - 1 := List.length_drop;rcases hc with ⟨hc1, hc2⟩ | ⟨hc1, b', t, m, h2, h3, h4⟩
 ·by_cases q : c = 1
  ·subst q
   have hn : l.length = 1 := by omega
   have key : evSlc (rowOf s) 3 1 (.slice (some ⟨b, o, none⟩) l.length 1) (some (.int .i64 1)) none none = some (.slice (some ⟨b, o, none⟩) (l.length - 1) 0) := by
    rw [hn]; rfl
   rw [key];show forceV (Value.slice (some ⟨b, o, none⟩) (l.length - 1) 0) (vK s k) = true;rw [forceV_eq];have := hR (some ⟨b, o, none⟩) 0 (by rw [List.drop_eq_nil_of_le (by omega)]; exact ⟨fun c hc => by cases hc; rfl, fun h => absurd rfl h, fun _ _ _ => trivial, fun x hx => (by cases hx), (by show (0:Nat) < _; decide)⟩);rw [hld] at this;exact hk _ _ ⟨A, hs, this⟩
  ·have key : evSlc (rowOf s) 3 1 (.slice (some ⟨b, o, none⟩) l.length c) (some (.int .i64 1)) none none = some (.slice (some ⟨b, o + 1 * 1, none⟩) (l.length - 1) (c - 1)) := slc_from (l := 1) (by omega) hc2 (by omega) hc1
   rw [key];show forceV (Value.slice (some ⟨b, o + 1 * 1, none⟩) (l.length - 1) (c - 1)) (vK s k) = true;rw [forceV_eq];have := hR (some ⟨b, o + 1 * 1, none⟩) (c - 1) (hl.drop h0);rw [hld] at this;exact hk _ _ ⟨A, hs, this⟩
 ·subst hc1
  cases h2;have hrow : rowOf s b = some (m, 3, true) := by
   unfold rowOf;rw [hs.2.1.2.2 b (Full.lt hs.1 h3), h3]
  have key : evSlc (rowOf s) 3 1 (.slice (some ⟨b, 0, none⟩) l.length OPEN) (some (.int .i64 1)) none none = some (.slice (some ⟨b, 0 + 1 * 1, none⟩) (l.length - 1) (OPEN + (0 + 1))) := slc_opd (l := 1) hrow h4 (by omega) (by omega);rw [key];show forceV (Value.slice (some ⟨b, 0 + 1 * 1, none⟩) (l.length - 1) (OPEN + (0 + 1))) (vK s k) = true;rw [forceV_eq];have := hR (some ⟨b, 0 + 1 * 1, none⟩) (OPEN + (0 + 1)) (hl.drop h0);rw [hld] at this;exact hk _ _ ⟨A, hs, this⟩
theorem a_slcG {P : Program} {C : Nat -> (CF -> Bool) -> Bool} {X : FuncId -> List Value -> St -> (Value -> St -> Bool) -> Bool} {s0 : St} {n nt : Nat} {env : List (Nat × Value)} {A : List Ob} {R : Value -> List Ob -> Prop} {e : Nat} {x lo : Ev.X} {b c l : Nat} {z : Int} (hx : xv env x = some (.slice (some ⟨b, 0, none⟩) c c)) (hlo : xv env lo = some (.int .i64 z)) (hz : z = (l : Int)) (hl : l <= c) (hc : c < OPEN)
 (hR : ∀ o', (l < c -> o' = l) -> R (.slice (some ⟨b, o', none⟩) (c - l) (c - l)) A) : OpA P C X s0 n nt (.slc e 1 x (some lo) none none) env A R := by
 by_cases q : l < c
 ·exact a_slcF hx hlo hz hl (Nat.le_refl _) q hc (by have := hR (0 + l * 1) (fun _ => by omega); exact this)
 ·have hlc : l = c := by omega
  subst hlc;refine .mk fun s hs T hT k hk => ?_
  subst hz;refine Z6 hT (k := fun x => valOK T (some lo) (fun lo => valOK T none (fun hi => valOK T none (fun mx => slcK s e 1 x lo hi mx (vK s k))))) hx ?_;refine Z6 hT (k := fun v => slcK s e 1 _ (some v) none none (vK s k)) hlo ?_;unfold slcK;have key : evSlc (rowOf s) e 1 (.slice (some ⟨b, 0, none⟩) l l) (some (.int .i64 (l : Int))) none none = some (.slice (some ⟨b, 0, none⟩) (l - l) (l - l)) := by
   show sel (Nat.ble OPEN l) (match rowOf s b with
    | some (k, e', op) => sel (op && Nat.beq e e' && Nat.beq 0 ((l - OPEN) * 1) && !Nat.beq 1 0 && (Nat.beq l OPEN || !Nat.beq l 0)) (evSlcOpen b 1 l l k (l - OPEN) none) none
    | none => none) (sel (Nat.ble l l) (sel (Nat.ble l l) (some (Value.slice (some ⟨b, sel (Nat.beq l l) 0 (0 + l * 1), none⟩) (l - l) (l - l))) none) none) = _
   rw [show Nat.ble OPEN l = false from by
    cases hb : Nat.ble OPEN l with
    | false => rfl
    | true => rw [Nat.ble_eq] at hb; omega, show Nat.ble l l = true from by rw [Nat.ble_eq]; exact Nat.le_refl _, show Nat.beq l l = true from by rw [Nat.beq_eq]]
   rfl
  rw [key];show forceV (Value.slice (some ⟨b, 0, none⟩) (l - l) (l - l)) (vK s k) = true;rw [forceV_eq];exact hk _ _ ⟨A, hs, hR 0 (fun h => absurd h q)⟩
theorem a_copyX {P : Program} {C : Nat -> (CF -> Bool) -> Bool} {X : FuncId -> List Value -> St -> (Value -> St -> Bool) -> Bool} {s0 : St} {n nt : Nat} {env : List (Nat × Value)} {A A' : List Ob} {R : Value -> List Ob -> Prop} {x y : Ev.X} {b b' d m e e' : Nat} {op op' : Bool} {f : Nat -> Int} {l : List Int} (hx : xv env x = some (.slice (some ⟨b, 0, none⟩) d d)) (hy : xv env y = some (.slice (some ⟨b', 0, none⟩) m m)) (hd : d <= m) (hl : l.length = d) (hs : Own A b' e' op' (ints (xs f m))) (hu : Upd A b e op (ints l) (ints (xs f d)) A') (h0 : d = 0 -> A' = A) (h : R (.int .i64 (d : Int)) A') : OpA P C X s0 n nt (.copy 1 x y) env A R := by
 by_cases q : d = 0
 ·have hA := h0 q
  subst hA;subst q;refine .mk fun s hs T hT k hk => ?_
  refine Z6 hT (k := fun x => valK T y (fun y => copyK s 1 x y k)) hx (Z6 hT (k := fun y => copyK s 1 _ y k) hy ?_);show minN m 0 (fun j => ifB (Nat.beq j 0) (k (.int .i64 (.ofNat 0)) s) (rowK s b (fun m c e op => copyToK (fun h => seeK s b' (fun c' => segK c' 0 (Nat.mul j 1) h) (fun g => romSegK g 0 (Nat.mul j 1) h)) (fun l =>
   ifB (Nat.ble (Nat.add 0 (Nat.mul j 1)) m) (putsK c 0 l (fun c => storeK s b (.cells m c e op) (k (.int .i64 (.ofNat j))))) false)))) = true
  unfold minN;have key : k (.int .i64 (.ofNat 0)) s = true := hk _ _ ⟨_, hs, h⟩;cases hm : Nat.ble m 0 with
  | true =>
   have : m = 0 := by rw [Nat.ble_eq] at hm; omega
   subst this;exact key
  | false => exact key
 ·have hx2 : xs f m = xs f d ++ (xs f m).drop d := by
   conv => lhs; rw [<- List.take_append_drop d (xs f m)]
   congr 1
   unfold xs;rw [<- List.map_take, List.take_range, Nat.min_eq_left hd]
  refine a_copy1 (op := op) (e := e) (j := d) (more := ints (xs f d)) hx hy ?_ q (by rw [ints_len, W4]) (.inl ⟨_, _, _, hs, ?_⟩) (l := ints l) (A' := A') ?_ (by rw [ints_len, hl]; omega) h
  ·by_cases c : m <= d
   ·rw [if_pos c]; omega
   ·rw [if_neg c]
  ·exact seg_of (fun t ht => by
    rw [ints_len, W4] at ht;rw [Nat.zero_add, hx2];unfold ints;rw [List.map_append, List.getElem?_append_left (by rw [List.length_map, W4]; exact ht)])
  ·have e1 : over (ints l) 0 (ints (xs f d)) = ints (xs f d) := by
    unfold over;rw [List.take_zero, List.nil_append, List.drop_eq_nil_of_le (by rw [ints_len, ints_len, W4]; omega), List.append_nil]
   rw [e1]; exact hu
section
variable {X : FuncId -> List Value -> St -> (Value -> St -> Bool) -> Bool}
end
end Ev
end Go.Proofs.YtoeklhdklcpllaaGreat
