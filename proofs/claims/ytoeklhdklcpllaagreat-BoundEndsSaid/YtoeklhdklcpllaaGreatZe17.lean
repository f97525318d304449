import Derived.Test.YtoeklhdklcpllaaGreatZe16
import Derived.Test.YtoeklhdklcpllaaGreatZe15
set_option linter.unusedVariables false
set_option linter.unusedSimpArgs false
namespace Go.Proofs.YtoeklhdklcpllaaGreat
open Go Go.RowKit
namespace Ev
def rk (x p : Nat -> Int) (T : Nat -> Nat) (c v : Nat) : Nat := (x v - p v).toNat * (c + 1) + T v
def an (f : Nat -> Int) (v : Nat) : Nat -> Nat
 | 0 => v
 | i + 1 => (f (an f v i)).toNat
theorem Rh.rank {m F : Nat -> Nat -> Int} {N : Nat} {need p x f : Nat -> Int} {bk : Nat -> Bool} {T : Nat -> Nat} {c : Nat} (h : Rh m F N need p x f bk T c) {v : Nat} (hv : v < N) (hf : ¬ f v = -1) : ∃ a : Nat, f v = (a : Int) /\ a < N /\ ¬ x a = 1000000000 /\ ¬ x v = 1000000000 /\ rk x p T c a < rk x p T c v /\ ∃ om, Ra m F a v (bk v) om /\ x a + om <= x v := by
 obtain ⟨a, e1, e2, e3, e4, om, e5, e6, e7⟩ := h.pr v hv hf;refine ⟨a, e1, e2, e3, e4, ?_, om, e5, e6⟩;have l1 := h.lo a e2 e3;have l2 := h.lo v hv e4;have ca := h.ck a e2;unfold rk;rcases e7 with q | ⟨q, q2⟩
 ·have h1 : ((x a - p a).toNat + 1) * (c + 1) <= (x v - p v).toNat * (c + 1) := Nat.mul_le_mul_right _ (by omega)
  rw [Nat.add_mul, Nat.one_mul] at h1;omega
 ·rw [q]; omega
structure Tr (m F : Nat -> Nat -> Int) (N : Nat) (need x f : Nat -> Int) (bk : Nat -> Bool) (to k : Nat) (mu : Int) : Prop where
 lt : ∀ i, i <= k -> an f to i < N /\ ¬ x (an f to i) = 1000000000
 st : ∀ i, i < k -> ¬ f (an f to i) = -1
 mu1 : 1 <= mu /\ mu <= need to
 bks : ∀ i, i < k -> bk (an f to i) = true -> mu <= F (an f to i) (an f to (i + 1))
theorem Tr.zero {m F : Nat -> Nat -> Int} {N : Nat} {need x f : Nat -> Int} {bk : Nat -> Bool} {to : Nat} (h1 : to < N) (h2 : ¬ x to = 1000000000) (h3 : 0 < need to) : Tr m F N need x f bk to 0 (need to) :=
 ⟨fun i hi => by rw [show i = 0 by omega]; exact ⟨h1, h2⟩, fun i hi => absurd hi (Nat.not_lt_zero i), ⟨by omega, Int.le_refl _⟩, fun i hi => absurd hi (Nat.not_lt_zero i)⟩
theorem Tr.next {m F : Nat -> Nat -> Int} {N : Nat} {need p x f : Nat -> Int} {bk : Nat -> Bool} {T : Nat -> Nat} {c to k : Nat} {mu : Int} (h : Rh m F N need p x f bk T c) (ht : Tr m F N need x f bk to k mu) (hc : 0 <= need (an f to k) ∨ 0 <= f (an f to k)) : ∃ a : Nat, f (an f to k) = (a : Int) /\ a = an f to (k + 1) /\ a < N /\ rk x p T c a < rk x p T c (an f to k) /\ (bk (an f to k) = true -> Tr m F N need x f bk to (k + 1) (min mu (F (an f to k) a))) /\ (bk (an f to k) = false -> Tr m F N need x f bk to (k + 1) mu) := by
 obtain ⟨h1, h2⟩ := ht.lt k (Nat.le_refl _);have hf : ¬ f (an f to k) = -1 := fun q => by
  rcases h.rt _ h1 q with z | z
  ·exact h2 z
  ·omega
 obtain ⟨a, e1, e2, e3, _, e5, om, e6, _⟩ := h.rank h1 hf;have ea : a = an f to (k + 1) := by show a = (f (an f to k)).toNat; rw [e1]; exact (Int.toNat_natCast a).symm
 have hlt : ∀ i, i <= k + 1 -> an f to i < N /\ ¬ x (an f to i) = 1000000000 := fun i hi => by
  by_cases q : i = k + 1
  ·rw [q, <- ea]; exact ⟨e2, e3⟩
  ·exact ht.lt i (by omega)
 have hst : ∀ i, i < k + 1 -> ¬ f (an f to i) = -1 := fun i hi => by
  by_cases q : i = k
  ·rw [q]; exact hf
  ·exact ht.st i (by omega)
 refine ⟨a, e1, ea, e2, e5, fun q => ?_, fun q => ?_⟩
 ·have hF : 0 < F (an f to k) a := by
   rcases e6 with ⟨z, _⟩ | ⟨_, z, _⟩
   ·rw [q] at z; cases z
   ·exact z
  have := ht.mu1;refine ⟨hlt, hst, ⟨by omega, by omega⟩, fun i hi hb => ?_⟩;by_cases z : i = k
  ·rw [z, <- ea]; omega
  ·have := ht.bks i (by omega) hb
   omega
 ·refine ⟨hlt, hst, ht.mu1, fun i hi hb => ?_⟩
  by_cases z : i = k
  ·rw [z, q] at hb; cases hb
  ·exact ht.bks i (by omega) hb
theorem Tr.less {m F : Nat -> Nat -> Int} {N : Nat} {need x f : Nat -> Int} {bk : Nat -> Bool} {to k : Nat} {mu mu' : Int} (ht : Tr m F N need x f bk to k mu) (h1 : 1 <= mu') (h2 : mu' <= mu) : Tr m F N need x f bk to k mu' :=
 ⟨ht.lt, ht.st, ⟨h1, by have := ht.mu1; omega⟩, fun i hi hb => by have := ht.bks i hi hb; omega⟩
def pN (x p : Nat -> Int) (v : Nat) : Int := if x v = 1000000000 then p v + 2000000000 else x v
theorem pN_x {x p : Nat -> Int} {v : Nat} (h : ¬ x v = 1000000000) : pN x p v = x v := if_neg h
theorem LS.reach {m F : Nat -> Nat -> Int} {N : Nat} {w need p x f : Nat -> Int} {bk : Nat -> Bool} {T : Nat -> Nat} {c : Nat} (hm : MT m N) (hN : N <= 65) (hs : LS m N w need F p) (h : Rf m F N need p x f bk T c) : LS m N w need F (pN x p) := by
 refine ⟨hs.nn, fun a b ha hb hF => ?_, fun a b ha hb hf => ?_, hs.nt, fun v hv => ?_, fun v hv hn => ?_, hs.nb, hs.cp⟩
 ·obtain ⟨h1, h2, h3⟩ := hs.ar a b ha hb hF
  refine ⟨h1, h2, ?_⟩;by_cases qa : x a = 1000000000
  ·have qb : x b = 1000000000 := Classical.byContradiction (fun z => (h.bw b a hb ha z hF).1 qa)
   unfold pN;rw [if_pos qa, if_pos qb]; omega
  ·obtain ⟨qb, k1⟩ := h.fw a b ha hb qa h2
   obtain ⟨_, k2⟩ := h.bw b a hb ha qb hF;rw [pN_x qa, pN_x qb]; omega
 ·by_cases qa : x a = 1000000000
  ·have l1 := hs.lo a ha
   have l2 := hm.lo a b ha hb;have l3 := (h.rh.bd hs hN hb).2;have l4 := hs.st a b ha hb hf;unfold pN;rw [if_pos qa];split <;> omega
  ·obtain ⟨qb, k1⟩ := h.fw a b ha hb qa hf
   rw [pN_x qa, pN_x qb]; exact k1
 ·have l1 := hs.lo v hv
  have l2 := (h.rh.bd hs hN hv).1;unfold pN;split <;> omega
 ·have l1 := h.rh.so v hv hn
  rw [pN_x (by omega)]; exact l1
structure Au (m F G : Nat -> Nat -> Int) (N : Nat) (p2 : Nat -> Int) (r : Nat -> Nat) (to v : Nat) (mu : Int) : Prop where
 nn : ∀ a b, a < N -> b < N -> 0 <= G a b
 lw : ∀ a b, a < N -> b < N -> r a <= r v -> F a b <= G a b
 up : ∀ a b, a < N -> b < N -> r b <= r v -> G a b <= F a b
 cp : ∀ a b, a < N -> b < N -> G a b <= F a b + mu
 ar : ∀ a b, a < N -> b < N -> 0 < G a b -> a ≠ b /\ ¬ m a b = 1000000000 /\ p2 b = p2 a + m a b
 nt : ∀ u, u < N -> nF G N u = nF F N u + ((if u = to then mu else 0) - (if u = v then mu else 0))
theorem Au.zero {m F : Nat -> Nat -> Int} {N : Nat} {w need p2 : Nat -> Int} {r : Nat -> Nat} {to : Nat} {mu : Int} (hs : LS m N w need F p2) (hmu : 0 <= mu) : Au m F F N p2 r to to mu :=
 ⟨hs.nn, fun _ _ _ _ _ => Int.le_refl _, fun _ _ _ _ _ => Int.le_refl _, fun _ _ _ _ => by omega, hs.ar, fun u _ => by omega⟩
theorem Au.next {m F G : Nat -> Nat -> Int} {N : Nat} {p x f : Nat -> Int} {need w : Nat -> Int} {bk : Nat -> Bool} {T : Nat -> Nat} {c to k i : Nat} {mu : Int} (hm : MT m N) (hs : LS m N w need F (pN x p)) (h : Rf m F N need p x f bk T c) (ht : Tr m F N need x f bk to k mu) (hi : i < k) (ha : Au m F G N (pN x p) (rk x p T c) to (an f to i) mu) : ∃ a : Nat, f (an f to i) = (a : Int) /\ a = an f to (i + 1) /\ a < N /\ rk x p T c a < rk x p T c (an f to i) /\ (bk (an f to i) = true -> mu <= G (an f to i) a /\ Au m F (updT G (an f to i) a (G (an f to i) a - mu)) N (pN x p) (rk x p T c) to a mu) /\ (bk (an f to i) = false -> Au m F (updT G a (an f to i) (G a (an f to i) + mu)) N (pN x p) (rk x p T c) to a mu) := by
 obtain ⟨h1, h2⟩ := ht.lt i (by omega);obtain ⟨a, e1, e2, e3, e4, e5, om, e6, e7⟩ := h.rh.rank h1 (ht.st i hi);have ea : a = an f to (i + 1) := by show a = (f (an f to i)).toNat; rw [e1]; exact (Int.toNat_natCast a).symm
 have hmu := ht.mu1.1;generalize hv : an f to i = v at *;have hne : a ≠ v := fun z => by rw [z] at e5; exact Nat.lt_irrefl _ e5
 refine ⟨a, e1, ea, e2, e5, fun q => ?_, fun q => ?_⟩
 ·have hF : mu <= F v a := by have := ht.bks i hi (by rw [hv]; exact q); rw [hv, <- ea] at this; exact this
  have hG : mu <= G v a := by have := ha.lw v a h1 e2 (Nat.le_refl _); omega
  refine ⟨hG, fun b d hb hd => ?_, fun b d hb hd hr => ?_, fun b d hb hd hr => ?_, fun b d hb hd => ?_, fun b d hb hd hp => ?_, fun u hu => ?_⟩
  ·by_cases z : b = v /\ d = a
   ·rw [z.1, z.2, upT_eq]; omega
   ·rw [upT_ne z]; exact ha.nn b d hb hd
  ·by_cases z : b = v /\ d = a
   ·rw [z.1] at hr; omega
   ·rw [upT_ne z]; exact ha.lw b d hb hd (by omega)
  ·by_cases z : b = v /\ d = a
   ·rw [z.1, z.2, upT_eq]
    rw [z.2] at hr;have := ha.up v a h1 e2 (by omega);omega
   ·rw [upT_ne z]; exact ha.up b d hb hd (by omega)
  ·by_cases z : b = v /\ d = a
   ·rw [z.1, z.2, upT_eq]; have := ha.cp v a h1 e2; omega
   ·rw [upT_ne z]; exact ha.cp b d hb hd
  ·by_cases z : b = v /\ d = a
   ·rw [z.1, z.2]
    exact ha.ar v a h1 e2 (by omega)
   ·rw [upT_ne z] at hp; exact ha.ar b d hb hd hp
  ·rw [show G v a - mu = G v a + -mu by omega, nF_upd h1 e2, ha.nt u hu]
   by_cases z1 : u = v
   ·rw [if_pos z1, if_pos z1, if_neg (show ¬ u = a from fun z => hne (by rw [<- z, z1])), if_neg (show ¬ u = a from fun z => hne (by rw [<- z, z1]))]; omega
   ·rw [if_neg z1, if_neg z1]
    split <;> omega
 ·have hr : ¬ m a v = 1000000000 /\ om = m a v := by
   rcases e6 with ⟨_, _, z1, z2⟩ | ⟨z, _⟩
   ·exact ⟨z1, z2⟩
   ·rw [q] at z; cases z
  have htight : pN x p v = pN x p a + m a v := by
   rw [pN_x e3, pN_x e4];have := (h.fw a v e2 h1 e3 hr.1).2;rw [hr.2] at e7;omega
  refine ⟨fun b d hb hd => ?_, fun b d hb hd hr2 => ?_, fun b d hb hd hr2 => ?_, fun b d hb hd => ?_, fun b d hb hd hp => ?_, fun u hu => ?_⟩
  ·by_cases z : b = a /\ d = v
   ·rw [z.1, z.2, upT_eq]; have := ha.nn a v e2 h1; omega
   ·rw [upT_ne z]; exact ha.nn b d hb hd
  ·by_cases z : b = a /\ d = v
   ·rw [z.1, z.2, upT_eq]; have := ha.lw a v e2 h1 (by omega); omega
   ·rw [upT_ne z]; exact ha.lw b d hb hd (by omega)
  ·by_cases z : b = a /\ d = v
   ·rw [z.2] at hr2; omega
   ·rw [upT_ne z]; exact ha.up b d hb hd (by omega)
  ·by_cases z : b = a /\ d = v
   ·rw [z.1, z.2, upT_eq]; have := ha.up a v e2 h1 (Nat.le_refl _); omega
   ·rw [upT_ne z]; exact ha.cp b d hb hd
  ·by_cases z : b = a /\ d = v
   ·rw [z.1, z.2]; exact ⟨hne, hr.1, htight⟩
   ·rw [upT_ne z] at hp; exact ha.ar b d hb hd hp
  ·rw [nF_upd e2 h1, ha.nt u hu]
   by_cases z1 : u = v
   ·rw [if_pos z1, if_neg (show ¬ u = a from fun z => hne (by rw [<- z, z1]))]; omega
   ·rw [if_neg z1]
    split <;> omega
theorem LS.moved {m F G : Nat -> Nat -> Int} {N : Nat} {w need p2 : Nat -> Int} {r : Nat -> Nat} {to fr : Nat} {mu : Int} (hs : LS m N w need F p2) (ha : Au m F G N p2 r to fr mu) (h1 : to < N) (h2 : fr < N) (h3 : need fr < 0) (h4 : 1 <= mu /\ mu <= need to) (h5 : mu <= -(need fr)) : LS m N w (Z2 (Z2 need fr (need fr + mu)) to (need to - mu)) G p2 /\ pos (Z2 (Z2 need fr (need fr + mu)) to (need to - mu)) N < pos need N /\ fr ≠ to := by
 have hne : fr ≠ to := fun z => by rw [z] at h3; omega
 have hval : ∀ v, Z2 (Z2 need fr (need fr + mu)) to (need to - mu) v = need v - ((if v = to then mu else 0) - (if v = fr then mu else 0)) := fun v => by
  by_cases e : v = to
  ·rw [e, V2, if_pos rfl, if_neg (fun z => hne z.symm)]; omega
  ·rw [Q1 e, if_neg e]
   by_cases e2 : v = fr
   ·rw [e2, V2, if_pos rfl]; omega
   ·rw [Q1 e2, if_neg e2]; omega
 have hpos : pos (Z2 (Z2 need fr (need fr + mu)) to (need to - mu)) N = pos need N - mu := by
  unfold pos;have e1 : ∀ v, v < N -> max (Z2 (Z2 need fr (need fr + mu)) to (need to - mu) v) 0 = Z2 (fun v => max (need v) 0) to (need to - mu) v := fun v _ => by
   rw [hval];by_cases e : v = to
   ·rw [e, V2, if_pos rfl, if_neg (fun z => hne z.symm)]; omega
   ·rw [Q1 e, if_neg e]
    by_cases e2 : v = fr
    ·rw [e2, if_pos rfl]; omega
    ·rw [if_neg e2]; show max (need v - (0 - 0)) 0 = max (need v) 0; rw [show need v - (0 - 0) = need v by omega]
  rw [U6 e1, tot_upd h1]; omega
 refine ⟨⟨ha.nn, ha.ar, hs.st, fun v hv => ?_, hs.lo, fun v hv hn => ?_, fun v hv => ?_, fun a b hb hd => ?_⟩, by rw [hpos]; omega, hne⟩
 ·rw [ha.nt v hv, hs.nt v hv, hval]; omega
 ·rw [hval] at hn
  refine hs.so v hv ?_;by_cases e : v = to
  ·rw [e, if_pos rfl, if_neg (fun z => hne z.symm)] at hn; omega
  ·rw [if_neg e] at hn
   by_cases e2 : v = fr
   ·rw [e2]; exact h3
   ·rw [if_neg e2] at hn; omega
 ·have := hs.nb v hv
  rw [hval];by_cases e : v = to
  ·rw [e, if_pos rfl, if_neg (fun z => hne z.symm)]; rw [e] at this; omega
  ·rw [if_neg e]
   by_cases e2 : v = fr
   ·rw [e2, if_pos rfl]; rw [e2] at this; omega
   ·rw [if_neg e2]; omega
 ·have h6 := ha.cp a b hb hd
  have h7 := hs.cp a b hb hd;rw [hpos]; omega
def IsM (ls : List (List Int)) (M : Nat) (w : Nat -> Int) (z : Int) : Prop := (∀ x : Nat -> Int, (∀ i, i < ls.length -> x (lb ls i) <= x (la ls i) + lw ls i) -> tot (fun v => x v * w v) (M + 1) <= z) /\ ∃ x : Nat -> Int, (∀ i, i < ls.length -> x (lb ls i) <= x (la ls i) + lw ls i) /\ tot (fun v => x v * w v) (M + 1) = z
theorem IsM.uniq {ls : List (List Int)} {M : Nat} {w : Nat -> Int} {z z' : Int} (h : IsM ls M w z) (h' : IsM ls M w z') : z = z' := by
 obtain ⟨h1, x, h2, h3⟩ := h;obtain ⟨k1, y, k2, k3⟩ := h';have := h1 y k2;have := k1 x h2;omega
theorem Opt.isM {ls : List (List Int)} {M : Nat} {w t p : Nat -> Int} (hl : lmB (M : Int) ls = true) (h : Opt ls (M + 1) w t p) : IsM ls M w (tot (fun i => t i * lw ls i) ls.length) := ⟨fun x hx => h.le (hN_of hl) hx, p, h.st, h.eq (hN_of hl)⟩
theorem Opn.noM {ls : List (List Int)} {M : Nat} {w : Nat -> Int} {z : Int} (h : Opn ls (M + 1) w) (h' : IsM ls M w z) : False := by
 obtain ⟨U, h1, h2⟩ := h;obtain ⟨k1, x, k2, k3⟩ := h';have := k1 (fun v => x v + ind U v) (fun i hi => by
  have a1 := k2 i hi;have a2 := h1 i hi;show x (lb ls i) + ind U (lb ls i) <= x (la ls i) + ind U (la ls i) + lw ls i;unfold ind;by_cases c : U (lb ls i) = true
  ·rw [if_pos c, if_pos (a2 c)]; omega
  ·rw [if_neg c]; split <;> omega)
 rw [U6 (g := fun v => x v * w v + ind U v * w v) (fun v _ => Int.add_mul ..), tot_add] at this;omega
theorem LS.sum {m F : Nat -> Nat -> Int} {N : Nat} {w need p : Nat -> Int} (hs : LS m N w need F p) (hw : tot w N = 0) : tot need N = 0 := by
 have h1 := dot_nF (F := F) (p := fun _ => 1) (N := N);have h2 : tt (fun a b => F a b * ((fun _ => (1 : Int)) b - (fun _ => (1 : Int)) a)) N = 0 := tot_nil (fun a _ => tot_nil (fun b _ => by show F a b * (1 - 1) = 0; simp));rw [h2, U6 (g := fun v => w v - need v) (fun v hv => by show 1 * nF F N v = _; rw [Int.one_mul, hs.nt v hv]), tot_sub] at h1;omega
theorem tot_zero {f : Nat -> Int} : ∀ {N : Nat}, (∀ v, v < N -> f v <= 0) -> tot f N = 0 -> ∀ v, v < N -> f v = 0
 | 0, _, _, v, hv => absurd hv (Nat.not_lt_zero v)
 | N + 1, h, h0, v, hv => by
  have h1 := h N (by omega);have h2 : tot f N <= 0 := by
   have := tot_le (f := f) (g := fun _ => 0) (N := N) (fun i hi => h i (by omega))
   rwa [tot_nil (f := fun _ => (0 : Int)) (fun _ _ => rfl)] at this
  have h3 : tot f N + f N = 0 := h0;by_cases e : v = N
  ·rw [e]; omega
  ·exact tot_zero (N := N) (fun i hi => h i (by omega)) (by omega) v (by omega)
theorem LS.most {ls : List (List Int)} {M : Nat} {m F : Nat -> Nat -> Int} {w need p : Nat -> Int} (hl : lmB (M : Int) ls = true) (hD : DT ls (M + 1) m) (hs : LS m (M + 1) w need F p) (hw : tot w (M + 1) = 0) (hn : ∀ v, v < M + 1 -> need v <= 0) : IsM ls M w (tt (fun a b => F a b * m a b) (M + 1)) := by
 have h0 := tot_zero hn (hs.sum hw);have hnt : ∀ v, v < M + 1 -> nF F (M + 1) v = w v := fun v hv => by rw [hs.nt v hv, h0 v hv]; omega
 have hval : ∀ x : Nat -> Int, tot (fun v => x v * w v) (M + 1) = tt (fun a b => F a b * (x b - x a)) (M + 1) := fun x => by
  rw [<- dot_nF];exact U6 (fun v hv => by rw [hnt v hv])
 refine ⟨fun x hx => ?_, p, fun i hi => ?_, ?_⟩
 ·rw [hval]
  refine tt_le (fun a b ha hb => ?_);by_cases q : 0 < F a b
  ·obtain ⟨_, h2, _⟩ := hs.ar a b ha hb q
   have := ((hD a ha).way b hb h2).pot hx;exact Int.mul_le_mul_of_nonneg_left (by omega) (by omega)
  ·have : F a b = 0 := by have := hs.nn a b ha hb; omega
   rw [this, Int.zero_mul, Int.zero_mul]; exact Int.le_refl _
 ·obtain ⟨ka, kb⟩ := hN_of hl i hi
  have ho := (hD _ ka).own;obtain ⟨h1, h2⟩ := (hD _ ka).fix i hi (by omega);have := hs.st _ _ ka kb h1;omega
 ·rw [hval]
  refine tt_congr (fun a b ha hb => ?_);by_cases q : 0 < F a b
  ·obtain ⟨_, _, h3⟩ := hs.ar a b ha hb q
   rw [show p b - p a = m a b by omega]
  ·have : F a b = 0 := by have := hs.nn a b ha hb; omega
   rw [this, Int.zero_mul, Int.zero_mul]
theorem LS.open {ls : List (List Int)} {M : Nat} {m F : Nat -> Nat -> Int} {w need p x f : Nat -> Int} {bk : Nat -> Bool} {T : Nat -> Nat} {c : Nat} (hl : lmB (M : Int) ls = true) (hD : DT ls (M + 1) m) (hs : LS m (M + 1) w need F p) (h : Rf m F (M + 1) need p x f bk T c) (hn : ∀ v, v < M + 1 -> 0 < need v -> x v = 1000000000) {v : Nat} (hv : v < M + 1) (h0 : 0 < need v) : Opn ls (M + 1) w := by
 refine ⟨fun v => decide (x v = 1000000000), fun i hi q => ?_, ?_⟩
 ·have q : x (lb ls i) = 1000000000 := of_decide_eq_true q
  refine decide_eq_true (Classical.byContradiction (fun z => ?_));obtain ⟨ka, kb⟩ := hN_of hl i hi;have ho := (hD _ ka).own;obtain ⟨h1, _⟩ := (hD _ ka).fix i hi (by omega);exact (h.fw _ _ ka kb z h1).1 q
 ·have e : tot (fun v => ind (fun v => decide (x v = 1000000000)) v * w v) (M + 1) = tot (fun v => ind (fun v => decide (x v = 1000000000)) v * nF F (M + 1) v) (M + 1) + tot (fun v => ind (fun v => decide (x v = 1000000000)) v * need v) (M + 1) := by
   rw [<- tot_add];exact U6 (fun v hv => by rw [hs.nt v hv, <- Int.mul_add]; congr 1; omega)
  have e2 : tot (fun v => ind (fun v => decide (x v = 1000000000)) v * nF F (M + 1) v) (M + 1) = 0 := by
   rw [dot_nF (p := ind (fun v => decide (x v = 1000000000)))];refine tot_nil (fun a ha => tot_nil (fun b hb => ?_));by_cases q : 0 < F a b
   ·obtain ⟨_, h2, _⟩ := hs.ar a b ha hb q
    have : ind (fun v => decide (x v = 1000000000)) b = ind (fun v => decide (x v = 1000000000)) a := by
     unfold ind;by_cases qa : x a = 1000000000
     ·have qb : x b = 1000000000 := Classical.byContradiction (fun z => (h.bw b a hb ha z q).1 qa)
      rw [if_pos (decide_eq_true qa), if_pos (decide_eq_true qb)]
     ·have qb := (h.fw a b ha hb qa h2).1
      rw [if_neg (by rw [decide_eq_true_eq]; exact qb), if_neg (by rw [decide_eq_true_eq]; exact qa)]
    show F a b * (ind (fun v => decide (x v = 1000000000)) b - ind (fun v => decide (x v = 1000000000)) a) = 0;rw [this, Int.sub_self, Int.mul_zero]
   ·have : F a b = 0 := by have := hs.nn a b ha hb; omega
    show F a b * _ = 0;rw [this, Int.zero_mul]
  have e3 : ∀ u, u < M + 1 -> 0 <= ind (fun v => decide (x v = 1000000000)) u * need u := fun u hu => by
   unfold ind;by_cases q : x u = 1000000000
   ·rw [if_pos (decide_eq_true q), Int.one_mul]
    refine Classical.byContradiction (fun z => ?_);have := h.rh.so u hu (by omega);omega
   ·rw [if_neg (by rw [decide_eq_true_eq]; exact q), Int.zero_mul]; exact Int.le_refl _
  have e4 := tot_mem e3 v hv;have e5 : ind (fun v => decide (x v = 1000000000)) v * need v = need v := by
   unfold ind;rw [if_pos (decide_eq_true (hn v hv h0)), Int.one_mul]
  rw [e, e2];omega
section
variable {X : FuncId -> List Value -> St -> (Value -> St -> Bool) -> Bool}
end
theorem snd_step {T : Nat -> Nat -> Int} {i : Nat} (h : ∀ a, a < i -> 0 <= T a a) (h2 : ¬ T i i < 0) : ∀ a, a < i + 1 -> 0 <= T a a := fun a ha => by
 by_cases q : a = i
 ·rw [q]; omega
 ·exact h a (by omega)
section
variable {X : FuncId -> List Value -> St -> (Value -> St -> Bool) -> Bool}
theorem rWays_s (n : Nat) (M : Nat) (al : Option Addr) (cl : Nat) (ls : List (List Int)) (s : St) (hs : Wf s) (hn : 1688849860263936 <= n) (hL : RowsE s 4 al ls) (hM : M <= 64) (hlm : lmB (M : Int) ls = true) : Spec Tryz.prog (tabK tabw) X (n + 1500) 40 [.agg ⟨[.int .i64 (M : Int), .slice al ls.length cl]⟩] s (fun v A => ∃ b B, v = .slice (some ⟨b, 0, none⟩) (M + 1) (M + 1) /\ A = seg B (M + 1) (wm ls (M + 1) (M + 1)) (M + 1) ++ [.row b 25 false (slsT B (M + 1) (M + 1) (M + 1))]) := by
 refine enter bw40_at rfl hs ?_;unfold bw40;have hlen := hL.len;have hWB := wb_all (N := M + 1) hlm;refine rS (kO J (a_box J J J (fun b1 => (kM J J (Q0 (rS (kO J (U2 J (kO J (U1 J .here rfl (kO J (Q4 J J (by omega) (kM J J (Q0 (rS (kM J J (kO J (a_mks1 (m := M + 1) (c := M + 1) J J (by omega) (by omega) (by omega) (fun b2 => (kM J J (Q0 (rQ (rS (kM J J (kO J (a_len J (kM J J (Q0 (Z1 ?_)))))))))))))))))))))))))))));rw [sls_zero (B := fun _ => 0) (n := M + 1)];refine Z5 (fun j e A => ∃ (i : Nat) (B : Nat -> Nat), e = [(1, .pointer (some ⟨b1, 0, none⟩)), (3, .int .i64 ((M : Int) + 1)), (4, .slice (some ⟨b2, 0, none⟩) (M + 1) (M + 1)), (18, .int .i64 ((M + 1 : Nat) : Int)), (19, .int .i64 (i : Int))] /\ A = (seg B (M + 1) T0 i ++ (.row b2 25 false (slsT B (M + 1) i (M + 1)) :: (.row b1 24 false ([.int .i64 (M : Int), .slice al ls.length cl]) :: []))) /\ j = M + 1 - i /\ i <= M + 1) 400 281474976710656 281474976710656 ?_ (j := _) (env2 := _) (A2 := _) ?_ ?_ ?_ ?_ ⟨0, fun _ => 0, rfl, rfl, rfl, Nat.zero_le _⟩
 rotate_left
 ·omega
 ·omega
 ·exact (lc 1 J (lc 3 J (lc 4 J (lc 18 J (lc 19 J Less.nil)))))
 ·exact (.q (.q .slnil))
 rintro n hn j _ _ ⟨i, B, rfl, rfl, rfl, hi⟩;refine rS (kO J (Q6 J J (fun h3 => ?_) (fun h3 => ?_)))
 ·refine Q0 (rQ (Y0 J (W1 (W0 (rQ (Z1 (rS (kM J J (kM J J (Q0 (rS (kM J J (kM J J (kM J J (kO J (a_mksI (m := M + 1) (c := M + 1) J J (by omega) (by omega) (by omega) (fun b4 => (kO J (Y4 (j := i) J J (by omega) (by omega) (kZ J (a_st J J (by rw [sls_set]; exact (.next (.app .here))) (by rw [Nat.blt_eq, sls_len]; omega) J (Q0 (rS (kM J J (kM J J (kO J (Y4 (j := i) J J (by omega) (by omega) (kO J (U1 J (.next (.app .here)) (sls_new (by omega)) ?_)))))))))))))))))))))))))))))
  refine kO J (a_len J (kM J J (Q0 (Z1 ?_))));rw [dg_zero (i := i)];refine Z5 (fun j e A => ∃ (k : Nat), e = [(1, .pointer (some ⟨b1, 0, none⟩)), (3, .int .i64 ((M : Int) + 1)), (4, .slice (some ⟨b2, 0, none⟩) (M + 1) (M + 1)), (5, .int .i64 (i : Int)), (18, .int .i64 ((M + 1 : Nat) : Int)), (19, .int .i64 (i : Int)), (31, .int .i64 ((M + 1 : Nat) : Int)), (32, .int .i64 (k : Int))] /\ A = (.row b4 3 false (ints (dg (M + 1) i k)) :: (seg B (M + 1) T0 i ++ (.row b2 25 false (slsT (updB B i b4) (M + 1) (i + 1) (M + 1)) :: (.row b1 24 false ([.int .i64 (M : Int), .slice al ls.length cl]) :: [])))) /\ j = M + 1 - k /\ k <= M + 1) 200 0 281474976710656 ?_ (j := _) (env2 := _) (A2 := _) ?_ ?_ ?_ ?_ ⟨0, rfl, rfl, rfl, Nat.zero_le _⟩
  rotate_left
  ·omega
  ·omega
  ·exact (lc 1 J (lc 3 J (lc 4 J (lc 5 J (lc 18 J (lc 19 J (lc 31 J (lc 32 J Less.nil))))))))
  ·exact (.q (.r (.q (.q .slnil))))
  rintro n hn j _ _ ⟨k, rfl, rfl, rfl, hk⟩;have hdl := dg_len (n := M + 1) (i := i) (k := k);refine rS (kO J (Q6 J J (fun h5 => ?_) (fun h5 => ?_)))
  ·refine Q0 (rQ (Y0 J (W1 (W0 (rQ (Z1 (rS (kM J J (kM J J (Q0 (rS (kM J J (kM J J (kO J (Z4 J J (fun h6 => ?_) (fun h6 => ?_))))))))))))))))
   ·refine Q0 (Y0 J (rI (kM J J (kM J J (kO J (Y4 (j := i) J J (by omega) (by omega) (kO J (U1 J (.next (.app .here)) (sls_new (by omega)) (kM J J (kO J (Y4 (j := k) J J (by omega) (by omega) (kZ J (W8 J J .here (by first | omega | (simp; done) | (simp [wlen]; omega) | (simp; omega)) (Q0 (V1 (W0 (rI (kO J (Q4 J J (by omega) (kM J J (Q0 (W0 ?_))))))))))))))))))))))
    exact ⟨rfl, _, _, _, (show M + 1 - (k + 1) < M + 1 - k by omega), (lc 1 J (lc 3 J (lc 4 J (lc 5 J (lc 18 J (lc 19 J (lc 31 J (lc 32 J Less.nil)))))))), (.q (.r (.q (.q .slnil)))), ⟨k + 1, rfl, (by first | (rw [dg_set (by omega)]; done) | (rw [dg_skip (by omega)]; done)), rfl, by omega⟩⟩
   ·refine Q0 (U0 J (W1 (V1 (W0 (rI (kO J (Q4 J J (by omega) (kM J J (Q0 (W0 ?_))))))))))
    exact ⟨rfl, _, _, _, (show M + 1 - (k + 1) < M + 1 - k by omega), (lc 1 J (lc 3 J (lc 4 J (lc 5 J (lc 18 J (lc 19 J (lc 31 J (lc 32 J Less.nil)))))))), (.q (.r (.q (.q .slnil)))), ⟨k + 1, rfl, (by first | (rw [dg_set (by omega)]; done) | (rw [dg_skip (by omega)]; done)), rfl, by omega⟩⟩
  ·refine Q0 (rQ (U0 J (W5 (W3 (W3 (U3 (V1 (W0 (rI (kO J (Q4 J J (by omega) (kM J J (Q0 (W0 ?_))))))))))))))
   exact ⟨rfl, _, _, _, (show M + 1 - (i + 1) < M + 1 - i by omega), (lc 1 J (lc 3 J (lc 4 J (lc 18 J (lc 19 J Less.nil))))), (.q (.r (.q (.q .slnil)))), ⟨i + 1, updB B i b4, rfl, (by rw [dg_end (by omega), <- seg_new]; rfl), rfl, by omega⟩⟩
 ·have hiN : i = M + 1 := by omega
  subst hiN;refine Q0 (rQ (U0 J (W5 (W3 (W3 (U3 (W0 (rQ (rS (kO J (U2 J (kO J (U1 J (.app (.next .here)) J (kO J (a_lenx J hL.spot (kM J J (Q0 (Z1 ?_))))))))))))))))));refine Z5 (fun j e A => ∃ (k : Nat), e = [(4, .slice (some ⟨b2, 0, none⟩) (M + 1) (M + 1)), (47, .slice al ls.length cl), (48, .int .i64 (ls.length : Int)), (49, .int .i64 (k : Int))] /\ A = (seg B (M + 1) (limT ls k) (M + 1) ++ (.row b2 25 false (slsT B (M + 1) (M + 1) (M + 1)) :: (.row b1 24 false ([.int .i64 (M : Int), .slice al ls.length cl]) :: []))) /\ j = ls.length - k /\ k <= ls.length) 200 0 281474976710656 ?_ (j := _) (env2 := _) (A2 := _) ?_ ?_ ?_ ?_ ⟨0, rfl, rfl, rfl, Nat.zero_le _⟩
  rotate_left
  ·omega
  ·omega
  ·exact (lc 4 J (lc 47 J (lc 48 J (lc 49 J Less.nil))))
  ·exact (.r (.q (.q .slnil)))
  rintro n hn j _ _ ⟨k, rfl, rfl, rfl, hk⟩;refine rS (kO J (Q6 J J (fun h7 => ?_) (fun h7 => ?_)))
  ·obtain ⟨q4, o4, y0, y1, y2, y3, ahL, hx, hat, i0, i1, i2, i3⟩ := hL.row4 (k := k) (by omega)
   have hat2 := hat;obtain ⟨d0, d1, d2, d3, _⟩ := hat2;have := i0.lo; have := i0.hi;have := i1.lo; have := i1.hi;have := i2.lo; have := i2.hi;have := i3.lo; have := i3.hi;have hc4 := lmB_at hlm hx;obtain ⟨u0, rfl⟩ : ∃ q : Nat, y0 = (q : Int) := ⟨y0.toNat, by omega⟩;obtain ⟨u1, rfl⟩ : ∃ q : Nat, y1 = (q : Int) := ⟨y1.toNat, by omega⟩;refine Q0 (rQ (Y0 J (W1 (W0 (rQ (Z1 (rS (kO J (a_iaA (j := k) ahL rfl rfl (by first | rfl | omega) (by first | decide | omega) (kO J (a_ldar J (by decide) (by assumption) J (kO J (a_new J J (fun b8 => (kZ J (Q7 J J .here rfl rfl rfl rfl (Q0 (rI (kM J J (kO J (U2 J (kO J (U1 J .here rfl (kO J (Y4 (j := u0) J J (by omega) (by omega) (kO J (U1 J (.next (.app .here)) (sls_get (by omega) (by omega)) (kO J (U2 J (kO J (U1 J .here rfl (kM J J (kO J (U2 J (kO J (U1 J .here rfl ?_))))))))))))))))))))))))))))))))))));refine kO J (Y4 (j := u0) J J (by omega) (by omega) (kO J (U1 J (.next (.app .here)) (sls_get (by omega) (by omega)) (kO J (U2 J (kO J (U1 J .here rfl (kO J (Y4 (j := u1) J J (by omega) (by omega) (kO J (V5 (x := (limT ls k) (u0) (u1)) J (.next (own_seg (by omega))) (by rw [rowT_len]; omega) (rowT_get (by omega)) (kO J (U2 J (kO J (U1 J .here rfl (kO J (a_min J (kO J (Y4 (j := u1) J J (by omega) (by omega) (kZ J (W8 J J (.next (upd_seg (by omega))) (by rw [rowT_len]; omega) (Q0 (V1 (W0 (rI (kO J (Q4 J J (by omega) (kM J J (Q0 (W0 ?_))))))))))))))))))))))))))))));exact ⟨rfl, _, _, _, (show ls.length - (k + 1) < ls.length - k by omega), (lc 4 J (lc 47 J (lc 48 J (lc 49 J Less.nil)))), (.cons _ (.r (.q (.q .slnil)))), ⟨k + 1, rfl, (by first | (rw [limT_step hx]; done) | (rw [limT_step hx]; rfl)), rfl, by omega⟩⟩
  ·have hkN : k = ls.length := by omega
   subst hkN;refine Q0 (rQ (U0 J (W5 (W3 (W3 (U3 (W0 (rQ (rS (kM J J (kO J (a_len J (kM J J (Q0 (Z1 ?_)))))))))))))));refine Z5 (fun j e A => ∃ (u : Nat), e = [(4, .slice (some ⟨b2, 0, none⟩) (M + 1) (M + 1)), (75, .int .i64 ((M + 1 : Nat) : Int)), (76, .int .i64 (u : Int))] /\ A = (seg B (M + 1) (wm ls (M + 1) u) (M + 1) ++ (.row b2 25 false (slsT B (M + 1) (M + 1) (M + 1)) :: [])) /\ j = M + 1 - u /\ u <= M + 1) 600 562949953421312 281474976710656 ?_ (j := _) (env2 := _) (A2 := _) ?_ ?_ ?_ ?_ ⟨0, rfl, rfl, rfl, Nat.zero_le _⟩
   rotate_left
   ·omega
   ·omega
   ·exact (lc 4 J (lc 75 J (lc 76 J Less.nil)))
   ·exact (.r (.q (.cons _ .slnil)))
   rintro n hn j _ _ ⟨u, rfl, rfl, rfl, hu⟩;refine rS (kO J (Q6 J J (fun h9 => ?_) (fun h9 => ?_)))
   ·refine Q0 (rQ (Y0 J (W1 (W0 (rQ (Z1 (rS (kM J J (kM J J (Q0 (rS (kM J J (kO J (a_len J (kM J J (Q0 (Z1 ?_)))))))))))))))))
    refine Z5 (fun j e A => ∃ (i : Nat), e = [(4, .slice (some ⟨b2, 0, none⟩) (M + 1) (M + 1)), (9, .int .i64 (u : Int)), (75, .int .i64 ((M + 1 : Nat) : Int)), (76, .int .i64 (u : Int)), (80, .int .i64 ((M + 1 : Nat) : Int)), (81, .int .i64 (i : Int))] /\ A = (seg B (M + 1) (wi ls (M + 1) u i) (M + 1) ++ (.row b2 25 false (slsT B (M + 1) (M + 1) (M + 1)) :: [])) /\ j = M + 1 - i /\ i <= M + 1) 400 281474976710656 281474976710656 ?_ (j := _) (env2 := _) (A2 := _) ?_ ?_ ?_ ?_ ⟨0, rfl, rfl, rfl, Nat.zero_le _⟩
    rotate_left
    ·omega
    ·omega
    ·exact (lc 4 J (lc 9 J (lc 75 J (lc 76 J (lc 80 J (lc 81 J Less.nil))))))
    ·exact (.r (.q .slnil))
    rintro n hn j _ _ ⟨i, rfl, rfl, rfl, hi2⟩;refine rS (kO J (Q6 J J (fun h10 => ?_) (fun h10 => ?_)))
    ·refine Q0 (rQ (Y0 J (W1 (W0 (rQ (Z1 (rS (kM J J (kM J J (Q0 (rS (kM J J (kO J (a_len J (kM J J (Q0 (Z1 ?_)))))))))))))))))
     refine Z5 (fun j e A => ∃ (k : Nat), e = [(4, .slice (some ⟨b2, 0, none⟩) (M + 1) (M + 1)), (9, .int .i64 (u : Int)), (10, .int .i64 (i : Int)), (75, .int .i64 ((M + 1 : Nat) : Int)), (76, .int .i64 (u : Int)), (80, .int .i64 ((M + 1 : Nat) : Int)), (81, .int .i64 (i : Int)), (85, .int .i64 ((M + 1 : Nat) : Int)), (86, .int .i64 (k : Int))] /\ A = (seg B (M + 1) (wk ls (M + 1) u i k) (M + 1) ++ (.row b2 25 false (slsT B (M + 1) (M + 1) (M + 1)) :: [])) /\ j = M + 1 - k /\ k <= M + 1) 200 0 281474976710656 ?_ (j := _) (env2 := _) (A2 := _) ?_ ?_ ?_ ?_ ⟨0, rfl, rfl, rfl, Nat.zero_le _⟩
     rotate_left
     ·omega
     ·omega
     ·exact (lc 4 J (lc 9 J (lc 10 J (lc 75 J (lc 76 J (lc 80 J (lc 81 J (lc 85 J (lc 86 J Less.nil)))))))))
     ·exact (.r (.q .slnil))
     rintro n hn j _ _ ⟨k, rfl, rfl, rfl, hk2⟩;refine rS (kO J (Q6 J J (fun h11 => ?_) (fun h11 => ?_)))
     ·have hw1 := hWB u i k (by omega) (by omega) (by omega) i u (by omega) (by omega)
      have hw2 := hWB u i k (by omega) (by omega) (by omega) u k (by omega) (by omega);have hw3 := hWB u i k (by omega) (by omega) (by omega) i k (by omega) (by omega);refine Q0 (rQ (Y0 J (W1 (W0 (rQ (Z1 (rS (kM J J (kM J J (Q0 (rS (kM J J (kM J J (kO J (Y4 (j := i) J J (by omega) (by omega) (kO J (U1 J (.app .here) (sls_get (by omega) (by omega)) (kM J J (kO J (Y4 (j := u) J J (by omega) (by omega) (kO J (V5 (x := (wk ls (M + 1) u i k) (i) (u)) J (own_seg (by omega)) (by rw [rowT_len]; omega) (rowT_get (by omega)) (kO J (Z4 J J (fun h12 => ?_) (fun h12 => ?_)))))))))))))))))))))))))
      ·refine kM J J (kG J J (Y3 J (kG J J (Y3 J (kG J J (Y4 (j := u) J J (by omega) (by omega) (kG J J (U1 J (.app .here) (sls_get (by omega) (by omega)) (kG J J (Y3 J (kG J J (Y4 (j := k) J J (by omega) (by omega) (kG J J (V5 (x := (wk ls (M + 1) u i k) (u) (k)) J (own_seg (by omega)) (by rw [rowT_len]; omega) (rowT_get (by omega)) (kG J J (Z4 J J (fun h13 => ?_) (fun h13 => ?_)))))))))))))))))
       ·refine kO J (Q3 J J J (Q0 (Y0 J (rI (kM J J (kM J J (kO J (Y4 (j := i) J J (by omega) (by omega) (kO J (U1 J (.app .here) (sls_get (by omega) (by omega)) (kM J J (kM J J (kM J J (kO J (Y4 (j := i) J J (by omega) (by omega) (kO J (U1 J (.app .here) (sls_get (by omega) (by omega)) (kM J J (kO J (Y4 (j := k) J J (by omega) (by omega) (kO J (V5 (x := (wk ls (M + 1) u i k) (i) (k)) J (own_seg (by omega)) (by rw [rowT_len]; omega) (rowT_get (by omega)) (kM J J (kM J J (kO J (Y4 (j := i) J J (by omega) (by omega) (kO J (U1 J (.app .here) (sls_get (by omega) (by omega)) (kM J J (kO J (Y4 (j := u) J J (by omega) (by omega) (kO J (V5 (x := (wk ls (M + 1) u i k) (i) (u)) J (own_seg (by omega)) (by rw [rowT_len]; omega) (rowT_get (by omega)) (kM J J ?_))))))))))))))))))))))))))))))))))
        refine kM J J (kO J (Y4 (j := u) J J (by omega) (by omega) (kO J (U1 J (.app .here) (sls_get (by omega) (by omega)) (kM J J (kO J (Y4 (j := k) J J (by omega) (by omega) (kO J (V5 (x := (wk ls (M + 1) u i k) (u) (k)) J (own_seg (by omega)) (by rw [rowT_len]; omega) (rowT_get (by omega)) (kO J (Q4 J J (by omega) (kO J (a_min J (kO J (a_max J (kO J (Y4 (j := k) J J (by omega) (by omega) (kZ J (W8 J J (upd_seg (by omega)) (by rw [rowT_len]; omega) (Q0 (V1 (W0 (rI (kO J (Q4 J J (by omega) (kM J J (Q0 (W0 ?_))))))))))))))))))))))))))));exact ⟨rfl, _, _, _, (show M + 1 - (k + 1) < M + 1 - k by omega), (lc 4 J (lc 9 J (lc 10 J (lc 75 J (lc 76 J (lc 80 J (lc 81 J (lc 85 J (lc 86 J Less.nil))))))))), (.r (.q .slnil)), ⟨k + 1, rfl, (by first | (rw [wk_go (by omega) (by omega)]; done) | (rw [wk_no (by omega)]; done)), rfl, by omega⟩⟩
       ·refine kO J (Q3 J J J (Q0 (U0 J (W1 (V1 (W0 (rI (kO J (Q4 J J (by omega) (kM J J (Q0 (W0 ?_))))))))))))
        exact ⟨rfl, _, _, _, (show M + 1 - (k + 1) < M + 1 - k by omega), (lc 4 J (lc 9 J (lc 10 J (lc 75 J (lc 76 J (lc 80 J (lc 81 J (lc 85 J (lc 86 J Less.nil))))))))), (.r (.q .slnil)), ⟨k + 1, rfl, (by first | (rw [wk_go (by omega) (by omega)]; done) | (rw [wk_no (by omega)]; done)), rfl, by omega⟩⟩
      ·refine kM J J (V0 J J (V0 J J (V0 J J (V0 J J (V0 J J (V0 J J (V0 J J (V0 J J (kO J (Q2 J J J (Q0 (U0 J (W1 (V1 (W0 (rI (kO J (Q4 J J (by omega) (kM J J (Q0 (W0 ?_)))))))))))))))))))))
       exact ⟨rfl, _, _, _, (show M + 1 - (k + 1) < M + 1 - k by omega), (lc 4 J (lc 9 J (lc 10 J (lc 75 J (lc 76 J (lc 80 J (lc 81 J (lc 85 J (lc 86 J Less.nil))))))))), (.r (.q .slnil)), ⟨k + 1, rfl, (by first | (rw [wk_go (by omega) (by omega)]; done) | (rw [wk_no (by omega)]; done)), rfl, by omega⟩⟩
     ·refine Q0 (rQ (U0 J (W5 (W3 (W3 (U3 (V1 (W0 (rI (kO J (Q4 J J (by omega) (kM J J (Q0 (W0 ?_))))))))))))))
      exact ⟨rfl, _, _, _, (show M + 1 - (i + 1) < M + 1 - i by omega), (lc 4 J (lc 9 J (lc 75 J (lc 76 J (lc 80 J (lc 81 J Less.nil)))))), (.r (.q .slnil)), ⟨i + 1, rfl, (by rw [show k = M + 1 by omega]; rfl), rfl, by omega⟩⟩
    ·refine Q0 (rQ (U0 J (W5 (W3 (W3 (U3 (V1 (W0 (rI (kO J (Q4 J J (by omega) (kM J J (Q0 (W0 ?_))))))))))))))
     exact ⟨rfl, _, _, _, (show M + 1 - (u + 1) < M + 1 - u by omega), (lc 4 J (lc 75 J (lc 76 J Less.nil))), (.r (.q .slnil)), ⟨u + 1, rfl, (by rw [show i = M + 1 by omega]; rfl), rfl, by omega⟩⟩
   ·refine Q0 (rQ (U0 J (W5 (W3 (W3 (U3 (W0 (rS (kM J J (kM J J (Q0 (Z3 ?_))))))))))))
    have huN : u = M + 1 := by omega
    subst huN;exact end1A J (.r (.q .slnil)) ⟨_, B, rfl, rfl⟩
end
def TabE (s : St) (b o N : Nat) (D : Nat -> Nat -> Int) : Prop := ∀ i, i < N -> ∃ bi, At s b (o + i * 1) (.slice (some ⟨bi, 0, none⟩) N N) /\ ∀ j, j < N -> At s bi (0 + j * 1) (.int .i64 (D i j))
theorem TabE.ext {s s' : St} {b o N : Nat} {D : Nat -> Nat -> Int} (h : TabE s b o N D) (hw : Wf s) (x : Ext s s') : TabE s' b o N D := fun i hi => by
 obtain ⟨bi, h1, h2⟩ := h i hi;exact ⟨bi, h1.ext hw x, fun j hj => (h2 j hj).ext hw x⟩
theorem TabE.own {s0 s : St} {A : List Ob} {b N : Nat} {B : Nat -> Nat} {D : Nat -> Nat -> Int} {e e2 : Nat} {op : Bool} (hs : Hld s0 A s) (h : Own A b e op (slsT B N N N)) (hr : ∀ i, i < N -> Own A (B i) e2 false (ints (rowT D N i))) : TabE s b 0 N D := fun i hi => by
 refine ⟨B i, (hs.own h).at (sls_get hi hi), fun j hj => (hs.own (hr i hi)).at ?_⟩;have := ints_get (l := rowT D N i) (j := j) (by rw [rowT_len]; exact hj);rw [rowT_get hj] at this;exact this
def VecE (s : St) (b o N : Nat) (f : Nat -> Int) : Prop := ∀ j, j < N -> At s b (o + j * 1) (.int .i64 (f j))
theorem VecE.own {s0 s : St} {A : List Ob} {b N e : Nat} {op : Bool} {f : Nat -> Int} (hs : Hld s0 A s) (h : Own A b e op (ints (xs f N))) : VecE s b 0 N f := fun j hj => (hs.own h).at (by
 have := ints_get (l := xs f N) (j := j) (by rw [W4]; exact hj);rw [V4 hj] at this;exact this)
def stcV (f : Nat -> Int) (k : Nat -> Bool) (q : Nat) : Value := if q % 2 = 0 then .int .i64 (f (q / 2)) else .bool (k (q / 2))
def stc (f : Nat -> Int) (k : Nat -> Bool) (n : Nat) : List Value := fm (stcV f k) (n * 2)
theorem stc_len {f : Nat -> Int} {k : Nat -> Bool} {n : Nat} : (stc f k n).length = n * 2 := fm_len
theorem stc_at {f : Nat -> Int} {k : Nat -> Bool} {j : Nat} : stcV f k (j * 2) = .int .i64 (f j) /\ stcV f k (j * 2 + 1) = .bool (k j) := by
 unfold stcV;rw [if_pos (by omega), if_neg (by omega), show j * 2 / 2 = j by omega, show (j * 2 + 1) / 2 = j by omega];exact ⟨rfl, rfl⟩
theorem stc_fr {f : Nat -> Int} {k : Nat -> Bool} {n j : Nat} (h : j < n) : (stc f k n)[0 + j * 2 + 0]? = some (.int .i64 (f j)) := by
 unfold stc;rw [fm_get (by omega), show 0 + j * 2 + 0 = j * 2 by omega, stc_at.1]
theorem stc_seg {f : Nat -> Int} {k : Nat -> Bool} {n j : Nat} (h : j < n) : segL (stc f k n) (0 + j * 2) 2 = some [.int .i64 (f j), .bool (k j)] := by
 have := seg_of (l := stc f k n) (r := [.int .i64 (f j), .bool (k j)]) (i := 0 + j * 2) (fun t ht => by
  have ht' : t < 2 := ht;unfold stc;rw [fm_get (by omega)]
  match t, ht' with
  | 0, _ => rw [show 0 + j * 2 + 0 = j * 2 by omega, stc_at.1]; rfl
  | 1, _ => rw [show 0 + j * 2 + 1 = j * 2 + 1 by omega, stc_at.2]; rfl)
 exact this
theorem stc_over {f : Nat -> Int} {k : Nat -> Bool} {n j : Nat} {z : Int} {b : Bool} (h : j < n) : overL (stc f k n) (0 + j * 2) [.int .i64 z, .bool b] = some (stc (Z2 f j z) (Z2 k j b) n) := by
 refine fm_over (by show 0 + j * 2 + 2 <= n * 2; omega) (fun q hq => ?_);show some (stcV (Z2 f j z) (Z2 k j b) q) = if 0 + j * 2 <= q /\ q < 0 + j * 2 + 2 then ([.int .i64 z, .bool b] : List Value)[q - (0 + j * 2)]? else some (stcV f k q)
 by_cases e : q / 2 = j
 ·rw [if_pos (by omega)]
  by_cases e2 : q % 2 = 0
  ·have : q = j * 2 := by omega
   subst this;rw [stc_at.1, V2, show j * 2 - (0 + j * 2) = 0 by omega]; rfl
  ·have : q = j * 2 + 1 := by omega
   subst this;rw [stc_at.2, V2, show j * 2 + 1 - (0 + j * 2) = 1 by omega]; rfl
 ·rw [if_neg (by omega)]
  unfold stcV;rw [Q1 e, Q1 e]
theorem stc_ext {f g : Nat -> Int} {k l : Nat -> Bool} {n : Nat} (h : ∀ j, j < n -> f j = g j /\ k j = l j) : stc f k n = stc g l n := fm_ext (fun q hq => by
 obtain ⟨h1, h2⟩ := h (q / 2) (by omega);unfold stcV;rw [h1, h2])
theorem stc_zero {n : Nat} : repeatN [.int .i64 0, .bool false] n = stc (fun _ => 0) (fun _ => false) n := by
 refine List.ext_getElem? (fun q => ?_);have hl : ∀ n, (repeatN [.int .i64 0, .bool false] n).length = n * 2 := fun n => by
  induction n with
  | zero => rfl
  | succ n ih => show (([.int .i64 0, .bool false] : List Value) ++ repeatN [.int .i64 0, .bool false] n).length = _; rw [List.length_append, ih]; show 2 + n * 2 = _; omega
 have key : ∀ n q, q < n * 2 -> (repeatN [.int .i64 0, .bool false] n)[q]? = some (stcV (fun _ => 0) (fun _ => false) q) := by
  intro n
  induction n with
  | zero => intro q hq; omega
  | succ n ih =>
   intro q hq;show (([.int .i64 0, .bool false] : List Value) ++ repeatN [.int .i64 0, .bool false] n)[q]? = _
   match q, hq with
   | 0, _ => rfl
   | 1, _ => rfl
   | q + 2, hq =>
    rw [List.getElem?_append_right (by show 2 <= q + 2; omega)];show (repeatN _ n)[q + 2 - 2]? = _;rw [show q + 2 - 2 = q by omega, ih q (by omega)];unfold stcV;rw [show (q + 2) % 2 = q % 2 by omega]
 by_cases h : q < n * 2
 ·rw [key n q h]; unfold stc; rw [fm_get h]
 ·rw [List.getElem?_eq_none (by rw [hl]; omega)]; unfold stc; rw [fm_none (by omega)]
def wq (n : Int) : Int := wrapq .i64 n
theorem wq_mod {n : Int} : wq n = (n + 9223372036854775808) % 18446744073709551616 - 9223372036854775808 := by
 have e : IntKind.wrap .i64 n = (n + 9223372036854775808) % 18446744073709551616 - 9223372036854775808 := by
  unfold IntKind.wrap;simp only [IntKind.bits, IntKind.signed, show (2 : Int) ^ 64 = 18446744073709551616 from by decide, show (2 : Int) ^ (64 - 1) = 9223372036854775808 from by decide, Bool.true_and, decide_eq_true_eq];split <;> omega
 unfold wq wrapq;have key : ∀ b : Bool, (b = true -> -9223372036854775808 <= n /\ n < 9223372036854775808) -> sel b n (IntKind.wrap .i64 n) = (n + 9223372036854775808) % 18446744073709551616 - 9223372036854775808 := fun b hb => by
  cases b with
  | true => have := hb rfl; show n = _; omega
  | false => exact e
 refine key _ (fun h => ?_);unfold fits at h;cases n with
 | ofNat a => have h : Nat.blt a 9223372036854775808 = true := h; rw [Nat.blt_eq] at h; rw [show Int.ofNat a = (a : Int) from rfl]; omega
 | negSucc a => have h : Nat.blt a 9223372036854775808 = true := h; rw [Nat.blt_eq] at h; rw [Int.negSucc_eq]; omega
theorem wq_add {a b : Int} : wq (wq a + b) = wq (a + b) := by rw [wq_mod, wq_mod, wq_mod]; omega
theorem wq_in {n : Int} (h : -9223372036854775808 <= n /\ n < 9223372036854775808) : wq n = n := by rw [wq_mod]; omega
theorem a_addW {P : Program} {C : Nat -> (CF -> Bool) -> Bool} {X : FuncId -> List Value -> St -> (Value -> St -> Bool) -> Bool} {s0 : St} {n nt : Nat} {env : List (Nat × Value)} {A : List Ob} {R : Value -> List Ob -> Prop} {t d : Nat} {x y : Ev.X} {a b : Int} (hx : xv env x = some (.int .i64 a)) (hy : xv env y = some (.int .i64 b)) (h : R (.int .i64 (wq (a + b))) A) : OpA P C X s0 n nt (.bin .add t d x y) env A R := a_bin hx hy rfl h
def cs (F m : Nat -> Nat -> Int) (N a : Nat) : Int := tot (fun a => tot (fun b => F a b * m a b) N) a
theorem cs_row {F m : Nat -> Nat -> Int} {N a : Nat} : cs F m N a + tot (fun b => F a b * m a b) N = cs F m N (a + 1) := rfl
theorem cs_all {F m : Nat -> Nat -> Int} {N : Nat} : cs F m N N = tt (fun a b => F a b * m a b) N := rfl
theorem cs_go {F m : Nat -> Nat -> Int} {N a b : Nat} {z : Int} : wq (wq (z + tot (fun b => F a b * m a b) b) + F a b * m a b) = wq (z + tot (fun b => F a b * m a b) (b + 1)) := by
 rw [wq_add, show tot (fun b => F a b * m a b) (b + 1) = tot (fun b => F a b * m a b) b + F a b * m a b from rfl]
 congr 1; omega
theorem cs_no {F m : Nat -> Nat -> Int} {N a b : Nat} {z : Int} (h : F a b = 0) : wq (z + tot (fun b => F a b * m a b) b) = wq (z + tot (fun b => F a b * m a b) (b + 1)) := by
 rw [show tot (fun b => F a b * m a b) (b + 1) = tot (fun b => F a b * m a b) b + F a b * m a b from rfl, h, Int.zero_mul]
 congr 1; omega
theorem fl_sz {m F : Nat -> Nat -> Int} {N : Nat} {w need p : Nat -> Int} (hm : MT m N) (hs : LS m N w need F p) {a b : Nat} (ha : a < N) (hb : b < N) (h : 0 < F a b) : F a b <= 3600000000000 /\ (-1300000 <= m a b /\ m a b <= 1280000) /\ (-4680000000000000000 <= F a b * m a b /\ F a b * m a b <= 4680000000000000000) := by
 have h1 := hs.cp a b ha hb;have h2 : 0 <= pos need N := tot_nn (fun i _ => by omega);have h3 := (hm.hi a b ha hb).resolve_left (hs.ar a b ha hb h).2.1;have h4 := hm.lo a b ha hb;refine ⟨by omega, ⟨h4, h3⟩, ?_⟩;have e1 := Int.mul_le_mul_of_nonneg_left h3 (show 0 <= F a b by omega);have e2 := Int.mul_le_mul_of_nonneg_left h4 (show 0 <= F a b by omega);omega
section
variable {X : FuncId -> List Value -> St -> (Value -> St -> Bool) -> Bool}
theorem cost_s (n : Nat) (bm om bg og N : Nat) (m F : Nat -> Nat -> Int) (w need p : Nat -> Int) (s : St) (hs : Wf s) (hn : 844424930131968 <= n) (hN : N <= 65) (hm : MT m N) (hs9 : LS m N w need F p) (hm9 : TabE s bm om N m) (hF9 : TabE s bg og N F) : Spec Tryz.prog (tabK tabw) X (n + 900) 113 [.slice (some ⟨bm, om, none⟩) N N, .slice (some ⟨bg, og, none⟩) N N] s (fun v A => v = .int .i64 (wq (tt (fun a b => F a b * m a b) N)) /\ A = []) := by
 refine enter bw113_at rfl hs ?_;unfold bw113;refine rS (kM J J (Q0 (rS (kM J J (Q0 (rQ (rS (kM J J (kO J (a_len J (kM J J (Q0 (Z1 (Z5 (fun j e A => ∃ (ka : Nat), e = [(0, .slice (some ⟨bm, om, none⟩) N N), (1, .slice (some ⟨bg, og, none⟩) N N), (5, .int .i64 (wq (cs F m N ka))), (9, .int .i64 (N : Int)), (10, .int .i64 (ka : Int))] /\ A = [] /\ j = N - ka /\ ka <= N) 400 281474976710656 281474976710656 ?_ (j := _) (env2 := _) (A2 := _) ?_ ?_ ?_ ?_ ⟨0, rfl, rfl, rfl, Nat.zero_le _⟩))))))))))))))
 rotate_left
 ·omega
 ·omega
 ·exact (lc 0 J (lc 1 J (lc 5 (by show some (Value.int .i64 0) = some (Value.int .i64 (wq 0)); rw [wq_in (by omega)]) (lc 9 J (lc 10 J Less.nil)))))
 ·exact .slnil
 rintro n hn j _ _ ⟨ka, rfl, rfl, rfl, hka⟩;refine rS (kO J (Q6 J J (fun h1 => ?_) (fun h1 => ?_)))
 ·refine Q0 (rQ (Y0 J (W1 (W0 (rQ (Z1 (rS (kM J J (kM J J (Q0 (rS (kM J J (kO J (a_len J (kM J J (Q0 (Z1 (Z5 (fun j e A => ∃ (kb : Nat), e = [(0, .slice (some ⟨bm, om, none⟩) N N), (1, .slice (some ⟨bg, og, none⟩) N N), (5, .int .i64 (wq (cs F m N ka + tot (fun b => F ka b * m ka b) kb))), (6, .int .i64 (ka : Int)), (9, .int .i64 (N : Int)), (10, .int .i64 (ka : Int)), (14, .int .i64 (N : Int)), (15, .int .i64 (kb : Int))] /\ A = [] /\ j = N - kb /\ kb <= N) 200 0 281474976710656 ?_ (j := _) (env2 := _) (A2 := _) ?_ ?_ ?_ ?_ ⟨0, rfl, rfl, rfl, Nat.zero_le _⟩))))))))))))))))))
  rotate_left
  ·omega
  ·omega
  ·exact (lc 0 J (lc 1 J (lc 5 (by show _ = some (Value.int .i64 (wq (cs F m N ka + 0))); rw [Int.add_zero]; rfl) (lc 6 J (lc 9 J (lc 10 J (lc 14 J (lc 15 J Less.nil))))))))
  ·exact .slnil
  rintro n hn j _ _ ⟨kb, rfl, rfl, rfl, hkb⟩;refine rS (kO J (Q6 J J (fun h2 => ?_) (fun h2 => ?_)))
  ·refine Q0 (rQ (Y0 J (W1 (W0 (rQ (Z1 (rS (kM J J (kM J J (Q0 (rS (kM J J (kM J J (kO J (Y4 (j := ka) J J (by first | decide | omega) (by omega) ?_)))))))))))))))
   obtain ⟨bi5, hb3, hr4⟩ := hF9 ka (by omega);refine kO J (W7 J hb3 (kM J J (kO J (Y4 (j := kb) J J (by first | decide | omega) (by omega) (kO J (W7 J (hr4 kb (by omega)) (kO J (a_gtr J J (fun h6 => ?_) (fun h6 => ?_)))))))))
   ·have hsz9 := fl_sz hm hs9 (a := ka) (b := kb) (by omega) (by omega) (by omega)
    refine Q0 (Y0 J (rI (kM J J (kM J J (kM J J (kO J (Y4 (j := ka) J J (by first | decide | omega) (by omega) ?_)))))));obtain ⟨bi9, hb7, hr8⟩ := hF9 ka (by omega);refine kO J (W7 J hb7 (kM J J (kO J (Y4 (j := kb) J J (by first | decide | omega) (by omega) (kO J (W7 J (hr8 kb (by omega)) (kM J J (kM J J (kO J (Y4 (j := ka) J J (by first | decide | omega) (by omega) ?_))))))))));obtain ⟨bi12, hb10, hr11⟩ := hm9 ka (by omega);refine kO J (W7 J hb10 (kM J J (kO J (Y4 (j := kb) J J (by first | decide | omega) (by omega) (kO J (W7 J (hr11 kb (by omega)) (kO J (a_mul J J (by omega) (kO J (a_addW J J (kM J J (Q0 (V1 (W0 (rI (kO J (Q4 J J (by omega) (kM J J (Q0 (W0 ?_))))))))))))))))))));exact ⟨rfl, _, _, _, (show N - (kb + 1) < N - kb by omega), (lc 0 J (lc 1 J (lc 5 (by first | (show some (Value.int .i64 (wq (wq _ + F ka kb * m ka kb))) = _; rw [cs_go (N := N)]; done) | (show some (Value.int .i64 (wq (cs F m N ka + tot (fun b => F ka b * m ka b) kb))) = _; rw [cs_no (N := N) (by have := hs9.nn ka kb (by omega) (by omega); omega)]; done)) (lc 6 J (lc 9 J (lc 10 J (lc 14 J (lc 15 J Less.nil)))))))), .slnil, ⟨kb + 1, rfl, rfl, rfl, by omega⟩⟩
   ·refine Q0 (U0 J (W1 (V1 (W0 (rI (kO J (Q4 J J (by omega) (kM J J (Q0 (W0 ?_))))))))))
    exact ⟨rfl, _, _, _, (show N - (kb + 1) < N - kb by omega), (lc 0 J (lc 1 J (lc 5 (by first | (show some (Value.int .i64 (wq (wq _ + F ka kb * m ka kb))) = _; rw [cs_go (N := N)]; done) | (show some (Value.int .i64 (wq (cs F m N ka + tot (fun b => F ka b * m ka b) kb))) = _; rw [cs_no (N := N) (by have := hs9.nn ka kb (by omega) (by omega); omega)]; done)) (lc 6 J (lc 9 J (lc 10 J (lc 14 J (lc 15 J Less.nil)))))))), .slnil, ⟨kb + 1, rfl, rfl, rfl, by omega⟩⟩
  ·refine Q0 (rQ (U0 J (W5 (W3 (W3 (U3 (V1 (W0 (rI (kO J (Q4 J J (by omega) (kM J J (Q0 (W0 ?_))))))))))))))
   exact ⟨rfl, _, _, _, (show N - (ka + 1) < N - ka by omega), (lc 0 J (lc 1 J (lc 5 (by show some (Value.int .i64 (wq (cs F m N ka + tot (fun b => F ka b * m ka b) kb))) = _; rw [show kb = N by omega, cs_row]) (lc 9 J (lc 10 J Less.nil))))), .slnil, ⟨ka + 1, rfl, rfl, rfl, by omega⟩⟩
 ·refine Q0 (rQ (U0 J (W5 (W3 (W3 (U3 (W0 (rS (kM J J (kM J J (Q0 (Z3 ?_))))))))))))
  have haN : ka = N := by omega
  subst haN;exact end1 J ⟨by rw [cs_all], rfl⟩
end
theorem rep2 {N : Nat} : N * 2 = (repeatN [.int .i64 0, .bool false] N).length := by rw [stc_zero, stc_len]
def ini (need : Nat -> Int) (k v : Nat) : Int := if v < k then (if need v < 0 then 0 else 1000000000) else 0
def fi (k v : Nat) : Int := if v < k then -1 else 0
theorem ini_neg {need : Nat -> Int} {k N : Nat} (h : need k < 0) : xs (Z2 (Z2 (ini need k) k 1000000000) k 0) N = xs (ini need (k + 1)) N := xs_ext (fun j _ => by
 by_cases e : j = k
 ·rw [e, V2]; unfold ini; rw [if_pos (by omega), if_pos h]
 ·rw [Q1 e, Q1 e]; unfold ini
  by_cases q : j < k
  ·rw [if_pos q, if_pos (show j < k + 1 by omega)]
  ·rw [if_neg q, if_neg (by omega)])
theorem ini_pos {need : Nat -> Int} {k N : Nat} (h : ¬ need k < 0) : xs (Z2 (ini need k) k 1000000000) N = xs (ini need (k + 1)) N := xs_ext (fun j _ => by
 by_cases e : j = k
 ·rw [e, V2]; unfold ini; rw [if_pos (by omega), if_neg h]
 ·rw [Q1 e]; unfold ini
  by_cases q : j < k
  ·rw [if_pos q, if_pos (show j < k + 1 by omega)]
  ·rw [if_neg q, if_neg (by omega)])
theorem fi_go {k N : Nat} : stc (Z2 (fi k) k (-1)) (Z2 (fun _ => false) k false) N = stc (fi (k + 1)) (fun _ => false) N := stc_ext (fun j _ => by
 by_cases e : j = k
 ·rw [e, V2, V2]; unfold fi; rw [if_pos (by omega)]; exact ⟨rfl, rfl⟩
 ·rw [Q1 e, Q1 e]; unfold fi
  by_cases q : j < k
  ·rw [if_pos q, if_pos (by omega)]; exact ⟨rfl, rfl⟩
  ·rw [if_neg q, if_neg (by omega)]; exact ⟨rfl, rfl⟩)
theorem cnt_one {x : Nat -> Int} {v : Nat} : ∀ {N : Nat}, v < N -> ¬ x v = 1000000000 -> 1 <= fcn x N
 | N + 1, hv, h => by
  have := (cnt_bd (x := x) (N := N)).1;show 1 <= fcn x N + (if x N = 1000000000 then 0 else 1);by_cases e : v = N
  ·subst e; rw [if_neg h]; omega
  ·have := cnt_one (N := N) (by omega) h
   split <;> omega
theorem Rh.zero {m F : Nat -> Nat -> Int} {N : Nat} {w need p : Nat -> Int} (hs : LS m N w need F p) : Rh m F N need p (ini need N) (fi N) (fun _ => false) (fun _ => 0) 1 := by
 have hx : ∀ v, v < N -> ini need N v = if need v < 0 then 0 else 1000000000 := fun v hv => if_pos hv
 have hf : ∀ v, v < N -> fi N v = -1 := fun v hv => if_pos hv
 refine ⟨fun v hv q => ?_, fun v hv q => ?_, fun v hv q => ?_, fun v hv _ => ?_, fun v hv q => absurd (hf v hv) q, fun _ _ => Nat.one_pos⟩
 ·rw [hx v hv] at q ⊢
  by_cases c : need v < 0
  ·rw [if_pos c]; exact hs.so v hv c
  ·rw [if_neg c] at q; exact absurd rfl q
 ·have h1 := cnt_one hv q
  rw [hx v hv] at q ⊢;by_cases c : need v < 0
  ·rw [if_pos c]; omega
  ·rw [if_neg c] at q; exact absurd rfl q
 ·rw [hx v hv, if_pos q]; exact Int.le_refl _
 ·rw [hx v hv]
  by_cases c : need v < 0
  ·exact .inr c
  ·rw [if_neg c]; exact .inl rfl
theorem Ps.tru {m F : Nat -> Nat -> Int} {N : Nat} {x0 x : Nat -> Int} {a b a' b' : Nat} (h : Ps m F N x0 x true a b) : Ps m F N x0 x true a' b' := ⟨fun q => (by cases q), h.yes⟩
theorem Ps.ms {m F : Nat -> Nat -> Int} {N : Nat} {x0 x : Nat -> Int} {g : Bool} (h : Ps m F N x0 x g N 0) (h1 : -100000000 <= tot x N) : (tot x N + 100000000).toNat * 2 + g.toNat < (tot x0 N + 100000000).toNat * 2 + 1 := by
 cases g with
 | false => have := (h.no rfl).1; show _ * 2 + 0 < _; rw [this]; omega
 | true => have := h.yes rfl; show _ * 2 + 1 < _; omega
theorem Rh.low {m F : Nat -> Nat -> Int} {N : Nat} {w need p x f : Nat -> Int} {bk : Nat -> Bool} {T : Nat -> Nat} {c : Nat} (hs : LS m N w need F p) (hN : N <= 65) (h : Rh m F N need p x f bk T c) : -100000000 <= tot x N /\ tot x N <= 65000000000 := by
 have := tot_bd (x := x) (lo := -1300000) (hi := 1000000000) (N := N) (fun a ha => by have := h.bd hs hN ha; omega);omega
section
variable {X : FuncId -> List Value -> St -> (Value -> St -> Bool) -> Bool}
theorem balance_s (n : Nat) (M : Nat) (aw : Option Addr) (cw : Nat) (w : List Int) (s : St) (hs : Wf s) (hn : 281474976710656 <= n) (hM : M <= 64) (hW : IntsE s aw w) (hCap : CapOk s aw w.length cw) (hwl : w.length = M + 1) (hwo : WOk w w.length) : Spec Tryz.prog (tabK tabw) X (n + 400) 111 [.slice aw w.length cw] s (fun v A => ∃ b, v = .slice (some ⟨b, 0, none⟩) (M + 1) OPEN /\ A = [.row b 3 true (ints (xs (du0 w M) (M + 1)))]) := by
 refine enter bw111_at rfl hs ?_;unfold bw111;have hlen := hW.len;have hne : w ≠ [] := fun e => by rw [e] at hwl; cases hwl
 have hdl : (w.drop 1).length = M := by rw [List.length_drop]; omega
 refine rS (kM J J (Q0 (rS (kO J (a_lit J J J (fun b1 => (kM J J (kO J (a_appz J (fun b hb => by cases hb; rfl) J (src_ints hW hne) (fun e => hne (List.eq_nil_of_length_eq_zero e)) (by omega) (by omega) (fun b2 => (kM J J (Q0 (rS ?_)))))))))))));rw [congrArg ints (xs_of hwl)];refine kM J J (kO J (Y4 (j := 0) J J (by omega) (by omega) (kZ J (W8 J J (by rw [xs_set]; exact .here) (by rw [W4]; omega) (Q0 (rQ (rS (kM J J (kO J (a_slcD hW rfl rfl (by omega) hCap (fun aD cD hW1 => (kO J (a_lenx J hW1.spot (kM J J (Q0 (Z1 (Z5 (fun j e A => ∃ (k : Nat), e = [(3, .slice (some ⟨b2, 0, none⟩) w.length OPEN), (12, .slice aD (w.drop 1).length cD), (13, .int .i64 ((w.drop 1).length : Int)), (14, .int .i64 (k : Int))] /\ A = (.row b2 3 true (ints (xs (du0 w k) (M + 1))) :: []) /\ j = M - k /\ k <= M) 200 0 281474976710656 ?_ (j := _) (env2 := _) (A2 := _) ?_ ?_ ?_ ?_ ⟨0, rfl, rfl, rfl, Nat.zero_le _⟩)))))))))))))))))
 rotate_left
 ·omega
 ·omega
 ·exact (lc 3 J (lc 12 J (lc 13 J (lc 14 J Less.nil))))
 ·exact (.q (.cons _ .slnil))
 rintro n hn j _ _ ⟨k, rfl, rfl, rfl, hk⟩;refine rS (kO J (Q6 J J (fun h3 => ?_) (fun h3 => ?_)))
 ·refine Q0 (rQ (Y0 J (W1 (W0 (rQ (Z1 (rS (kO J (Q8 (j := k) hW1 rfl rfl (by omega) (by first | rfl | omega) (by omega) (fun _ _ a4 => (kO J (W7 J (hW1.at a4 (by omega)) (kM J J (Q0 (rI (kM J J (kO J (Y4 (j := 0) J J (by omega) (by omega) ?_))))))))))))))))))
  have hdr := du_rng hwo (k := k) (by omega);refine kO J (V5 (x := (du0 w k) (0)) J .here (by rw [W4]; omega) (V4 (by omega)) (kM J J (kO J (a_sub J J (by omega) (kO J (Y4 (j := 0) J J (by omega) (by omega) (kZ J (W8 J J (by rw [xs_set]; exact .here) (by rw [W4]; omega) (Q0 (V1 (W0 (rI (kO J (Q4 J J (by omega) (kM J J (Q0 (W0 ?_)))))))))))))))));exact ⟨rfl, _, _, _, (show M - (k + 1) < M - k by omega), (lc 3 J (lc 12 J (lc 13 J (lc 14 J Less.nil)))), (.q .slnil), ⟨k + 1, rfl, (by rw [du_step]), rfl, by omega⟩⟩
 ·refine Q0 (rQ (U0 J (W5 (W3 (W3 (U3 (W0 (rS (kM J J (kM J J (Q0 (Z3 ?_))))))))))))
  have hkM : k = M := by omega
  subst hkM;exact end1A J (.q .slnil) ⟨_, by rw [hwl], rfl⟩
set_option maxHeartbeats 2000000 in
theorem reach_s (n : Nat) (bm om bg og bn on cn N : Nat) (m F : Nat -> Nat -> Int) (w need p : Nat -> Int) (s : St) (hs : Wf s) (hn : 1407374883553280 <= n) (hN : N <= 65) (hm : MT m N) (hs9 : LS m N w need F p) (hm9 : TabE s bm om N m) (hF9 : TabE s bg og N F) (hd9 : VecE s bn on N need) : Spec Tryz.prog (tabK tabw) X (n + 2600) 112 [.slice (some ⟨bm, om, none⟩) N N, .slice (some ⟨bg, og, none⟩) N N, .slice (some ⟨bn, on, none⟩) N cn] s (fun v A => ∃ b1 b2 x f bk T c, v = .tuple #[.slice (some ⟨b1, 0, none⟩) N N, .slice (some ⟨b2, 0, none⟩) N N] /\ A = [.row b2 124 false (stc f bk N), .row b1 3 false (ints (xs x N))] /\ Rf m F N need p x f bk T c) := by
 refine enter bw112_at rfl hs ?_;unfold bw112;refine rS (kM J J (kM J J (Q0 (rS (kM J J (kO J (a_len J (kO J (a_mksZ (m := N) J J (by omega) (by omega) (by omega) (fun b1 => (kM J J (Q0 (rS (kM J J (kO J (a_len J (kO J (a_mks5 (m := N) (c := N) J J (by omega) (by omega) (by omega) rep2 (fun b2 => (kM J J (Q0 (rQ (rS (kM J J (kO J (a_len J (kM J J (Q0 (Z1 ?_)))))))))))))))))))))))))))));rw [stc_zero, show stc (fun _ => 0) (fun _ => false) N = stc (fi 0) (fun _ => false) N from stc_ext (fun j _ => ⟨rfl, rfl⟩), rep_xs0 (n := N), show xs (fun _ => 0) N = xs (ini need 0) N from xs_ext (fun j _ => rfl)];refine Z5 (fun j e A => ∃ (k : Nat), e = [(0, .slice (some ⟨bm, om, none⟩) N N), (1, .slice (some ⟨bg, og, none⟩) N N), (2, .slice (some ⟨bn, on, none⟩) N cn), (8, .slice (some ⟨b1, 0, none⟩) N N), (9, .slice (some ⟨b2, 0, none⟩) N N), (21, .int .i64 (N : Int)), (22, .int .i64 (k : Int))] /\ A = (.row b2 124 false (stc (fi k) (fun _ => false) N) :: (.row b1 3 false (ints (xs (ini need k) N)) :: [])) /\ j = N - k /\ k <= N) 200 0 281474976710656 ?_ (j := _) (env2 := _) (A2 := _) ?_ ?_ ?_ ?_ ⟨0, rfl, rfl, rfl, Nat.zero_le _⟩
 rotate_left
 ·omega
 ·omega
 ·exact (lc 0 J (lc 1 J (lc 2 J (lc 8 J (lc 9 J (lc 21 J (lc 22 J Less.nil)))))))
 ·exact (.q (.q .slnil))
 rintro n hn j _ _ ⟨k, rfl, rfl, rfl, hk⟩;refine rS (kO J (Q6 J J (fun h3 => ?_) (fun h3 => ?_)))
 ·refine Q0 (rQ (Y0 J (W1 (W0 (rQ (Z1 (rS (kM J J (kM J J (Q0 (rS (kM J J (kM J J (kO J (Y4 (j := k) J J (by omega) (by omega) (kZ J (W8 J J (by rw [xs_set]; exact (.next .here)) (by rw [W4]; omega) (Q0 (rS (kM J J (kM J J (kO J (Z7 J J (kO J (Y4 (j := k) J J (by omega) (by omega) (kZ J (Q7 J J .here (stc_over (by omega)) (by rw [Nat.ble_eq, stc_len]; omega) J J (Q0 ?_))))))))))))))))))))))))))))
  refine rS (kM J J (kM J J (kO J (Y4 (j := k) J J (by first | decide | omega) (by omega) (kO J (W7 J (hd9 k (by omega)) (kO J (Q6 J J (fun h4 => ?_) (fun h4 => ?_)))))))))
  ·refine Q0 (Y0 J (rI (kM J J (kM J J (kO J (Y4 (j := k) J J (by omega) (by omega) (kZ J (W8 J J (by rw [xs_set]; exact (.next .here)) (by rw [W4]; omega) (Q0 (V1 (W0 (rI (kO J (Q4 J J (by omega) (kM J J (Q0 (W0 ?_)))))))))))))))))
   exact ⟨rfl, _, _, _, (show N - (k + 1) < N - k by omega), (lc 0 J (lc 1 J (lc 2 J (lc 8 J (lc 9 J (lc 21 J (lc 22 J Less.nil))))))), (.q (.q .slnil)), ⟨k + 1, rfl, (by first | (rw [fi_go, ini_neg (by omega)]; done) | (rw [fi_go, ini_pos (by omega)]; done) | (rw [fi_go, ini_neg (by omega)]; rfl) | (rw [fi_go, ini_pos (by omega)]; rfl)), rfl, by omega⟩⟩
  ·refine Q0 (U0 J (W1 (V1 (W0 (rI (kO J (Q4 J J (by omega) (kM J J (Q0 (W0 ?_))))))))))
   exact ⟨rfl, _, _, _, (show N - (k + 1) < N - k by omega), (lc 0 J (lc 1 J (lc 2 J (lc 8 J (lc 9 J (lc 21 J (lc 22 J Less.nil))))))), (.q (.q .slnil)), ⟨k + 1, rfl, (by first | (rw [fi_go, ini_neg (by omega)]; done) | (rw [fi_go, ini_pos (by omega)]; done) | (rw [fi_go, ini_neg (by omega)]; rfl) | (rw [fi_go, ini_pos (by omega)]; rfl)), rfl, by omega⟩⟩
 ·have hkN : N = k := by omega
  subst hkN;refine Q0 (rQ (U0 J (W5 (W3 (W3 (U3 (W0 (rQ (rS (kM J J (Q0 (Z1 (Z5 (fun j e A => ∃ (x f : Nat -> Int) (bk : Nat -> Bool) (T : Nat -> Nat) (c : Nat) (g : Bool) (gn : Nat), e = [(0, .slice (some ⟨bm, om, none⟩) N N), (1, .slice (some ⟨bg, og, none⟩) N N), (2, .slice (some ⟨bn, on, none⟩) N cn), (8, .slice (some ⟨b1, 0, none⟩) N N), (9, .slice (some ⟨b2, 0, none⟩) N N), (11, .bool g)] /\ A = (.row b2 124 false (stc f bk N) :: (.row b1 3 false (ints (xs x N)) :: [])) /\ j = ((tot x N + 100000000).toNat * 2 + gn) /\ Rh m F N need p x f bk T c /\ (g = true -> gn = 1) /\ (g = false -> Rf m F N need p x f bk T c)) 1500 844424930131968 281474976710656 ?_ (j := _) (env2 := _) (A2 := _) ?_ ?_ ?_ ?_ ⟨(ini need N), (fi N), (fun _ => false), (fun _ => 0), 1, true, 1, rfl, rfl, rfl, (Rh.zero hs9), (fun _ => rfl), (fun q => by cases q)⟩)))))))))))))
  rotate_left
  ·omega
  ·(have := (Rh.zero hs9).low hs9 hN; omega)
  ·exact (lc 0 J (lc 1 J (lc 2 J (lc 8 J (lc 9 J (lc 11 J Less.nil))))))
  ·exact (.q (.q .slnil))
  rintro n hn j _ _ ⟨x, f, bk, T, c, g, gn, rfl, rfl, rfl, hRh, hg1, hg0⟩;have hlo9 := hRh.low hs9 hN;refine rQ (rS (kM J J ?_));cases g
  ·refine Q0 (U0 J (W5 (W3 (W3 (U3 (W0 (rS (kM J J (kM J J (kM J J (kM J J (Q0 (Z3 ?_)))))))))))))
   exact end2A J J (.q (.q .slnil)) ⟨_, _, x, f, bk, T, c, rfl, rfl, hg0 rfl⟩
  ·refine Q0 (Y0 J (W1 (W0 (Z1 (rS (kM J J (Q0 (rS (kM J J (kO J (a_len J (kM J J (Q0 (Z1 (Z5 (fun j e A => ∃ (ka : Nat) (x2 f2 : Nat -> Int) (bk2 : Nat -> Bool) (T2 : Nat -> Nat) (c2 : Nat) (g2 : Bool), e = [(0, .slice (some ⟨bm, om, none⟩) N N), (1, .slice (some ⟨bg, og, none⟩) N N), (2, .slice (some ⟨bn, on, none⟩) N cn), (8, .slice (some ⟨b1, 0, none⟩) N N), (9, .slice (some ⟨b2, 0, none⟩) N N), (11, .bool g2), (43, .int .i64 (N : Int)), (44, .int .i64 (ka : Int))] /\ A = (.row b2 124 false (stc f2 bk2 N) :: (.row b1 3 false (ints (xs x2 N)) :: [])) /\ j = N - ka /\ ka <= N /\ Rh m F N need p x2 f2 bk2 T2 c2 /\ Ps m F N x x2 g2 ka 0) 900 562949953421312 281474976710656 ?_ (j := _) (env2 := _) (A2 := _) ?_ ?_ ?_ ?_ ⟨0, x, f, bk, T, c, false, rfl, rfl, rfl, Nat.zero_le _, hRh, Ps.zero⟩)))))))))))))))
   rotate_left
   ·omega
   ·omega
   ·exact (lc 0 J (lc 1 J (lc 2 J (lc 8 J (lc 9 J (lc 11 J (lc 43 J (lc 44 J Less.nil))))))))
   ·exact (.q (.q .slnil))
   rintro n hn j _ _ ⟨ka, x2, f2, bk2, T2, c2, g2, rfl, rfl, rfl, hka, hRh2, hPs2⟩;refine rS (kO J (Q6 J J (fun h5 => ?_) (fun h5 => ?_)))
   ·refine Q0 (rQ (Y0 J (W1 (W0 (rQ (Z1 (rS (kM J J (kM J J (Q0 (rQ (rS (kM J J (kM J J (kO J (Y4 (j := ka) J J (by omega) (by omega) (kO J (V5 (x := (x2) (ka)) J (.next .here) (by rw [W4]; omega) (V4 (by omega)) (kO J (a_eql J J (fun h6 => ?_) (fun h6 => ?_)))))))))))))))))))))
    ·refine Q0 (Y0 J (W5 (W3 (U3 (W0 (rI (kO J (Q4 J J (by omega) (kM J J (Q0 (W0 ?_)))))))))))
     exact ⟨rfl, _, _, _, (show N - (ka + 1) < N - ka by omega), (lc 0 J (lc 1 J (lc 2 J (lc 8 J (lc 9 J (lc 11 J (lc 43 J (lc 44 J Less.nil)))))))), (.q (.q .slnil)), ⟨ka + 1, x2, f2, bk2, T2, c2, g2, rfl, rfl, rfl, by omega, hRh2, (hPs2.skip (by assumption))⟩⟩
    ·refine Q0 (U0 J (W1 (W0 (rS (kM J J (kO J (a_len J (kM J J (Q0 (Z1 (Z5 (fun j e A => ∃ (kb : Nat) (x3 f3 : Nat -> Int) (bk3 : Nat -> Bool) (T3 : Nat -> Nat) (c3 : Nat) (g3 : Bool), e = [(0, .slice (some ⟨bm, om, none⟩) N N), (1, .slice (some ⟨bg, og, none⟩) N N), (2, .slice (some ⟨bn, on, none⟩) N cn), (8, .slice (some ⟨b1, 0, none⟩) N N), (9, .slice (some ⟨b2, 0, none⟩) N N), (11, .bool g3), (12, .int .i64 (ka : Int)), (43, .int .i64 (N : Int)), (44, .int .i64 (ka : Int)), (53, .int .i64 (N : Int)), (54, .int .i64 (kb : Int))] /\ A = (.row b2 124 false (stc f3 bk3 N) :: (.row b1 3 false (ints (xs x3 N)) :: [])) /\ j = N - kb /\ kb <= N /\ Rh m F N need p x3 f3 bk3 T3 c3 /\ Ps m F N x x3 g3 ka kb /\ ¬ x3 ka = 1000000000) 400 281474976710656 281474976710656 ?_ (j := _) (env2 := _) (A2 := _) ?_ ?_ ?_ ?_ ⟨0, x2, f2, bk2, T2, c2, g2, rfl, rfl, rfl, Nat.zero_le _, hRh2, hPs2, (by assumption)⟩)))))))))))
     rotate_left
     ·omega
     ·omega
     ·exact (lc 0 J (lc 1 J (lc 2 J (lc 8 J (lc 9 J (lc 11 J (lc 12 J (lc 43 J (lc 44 J (lc 53 J (lc 54 J Less.nil)))))))))))
     ·exact (.q (.q .slnil))
     rintro n hn j _ _ ⟨kb, x3, f3, bk3, T3, c3, g3, rfl, rfl, rfl, hkb, hRh3, hPs3, hxa3⟩;have hba := hRh3.bd hs9 hN (show ka < N by omega);refine rS (kO J (Q6 J J (fun h7 => ?_) (fun h7 => ?_)))
     ·refine Q0 (rQ (Y0 J (W1 (W0 (rQ (Z1 (rS (kM J J (kM J J (Q0 (rQ (rS (kM J J (kM J J (kO J (Z4 J J (fun h8 => ?_) (fun h8 => ?_)))))))))))))))))
      ·refine kM J J (kG J J (Y3 J (kG J J (Y3 J (kG J J (Y4 (j := ka) J J (by first | decide | omega) (by omega) ?_))))))
       obtain ⟨bi11, hb9, hr10⟩ := hm9 ka (by omega);refine kG J J (W7 J hb9 (kG J J (Y3 J (kG J J (Y4 (j := kb) J J (by first | decide | omega) (by omega) (kG J J (W7 J (hr10 kb (by omega)) (kG J J (Z4 J J (fun h12 => ?_) (fun h12 => ?_))))))))))
       ·refine kO J (Q3 J J J (kM J J (kG J J (Y3 J (kG J J (Y3 J (kG J J (Y4 (j := ka) J J (by omega) (by omega) (kG J J (V5 (x := (x3) (ka)) J (.next .here) (by rw [W4]; omega) (V4 (by omega)) (kG J J (Y3 J (kG J J (Y3 J (kG J J (Y4 (j := ka) J J (by first | decide | omega) (by omega) ?_))))))))))))))))
        obtain ⟨bi15, hb13, hr14⟩ := hm9 ka (by omega);refine kG J J (W7 J hb13 (kG J J (Y3 J (kG J J (Y4 (j := kb) J J (by first | decide | omega) (by omega) (kG J J (W7 J (hr14 kb (by omega)) ?_)))))));have hmb := hm.lo ka kb (by omega) (by omega);have hmc := hm.hi ka kb (by omega) (by omega);refine kG J J (Q4 J J (by omega) (kG J J (Y3 J (kG J J (Y3 J (kG J J (Y4 (j := kb) J J (by omega) (by omega) (kG J J (V5 (x := (x3) (kb)) J (.next .here) (by rw [W4]; omega) (V4 (by omega)) (kG J J (Q6 J J (fun h16 => ?_) (fun h16 => ?_))))))))))))
        ·have hr1 : Ra m F ka kb false (m ka kb) := .inl ⟨rfl, by omega, by assumption, rfl⟩
         obtain ⟨hRh4, hlt4⟩ := hRh3.rlx hm hs9 hN (show ka < N by omega) (show kb < N by omega) hxa3 hr1 (by assumption);have hPs4 := hPs3.low (b2 := kb) hlt4;have hxa4 : ¬ (Z2 x3 kb (x3 ka + m ka kb)) ka = 1000000000 := by rw [Q1 (show ka ≠ kb by omega)]; exact hxa3
         have hxe4 : (Z2 x3 kb (x3 ka + m ka kb)) ka = x3 ka := Q1 (show ka ≠ kb by omega);refine kO J (Q3 J J J (Q0 (Y0 J (rS (kM J J (kM J J (kM J J (kM J J (kO J (Y4 (j := ka) J J (by omega) (by omega) (kO J (V5 (x := (x3) (ka)) J (.next .here) (by rw [W4]; omega) (V4 (by omega)) (kM J J (kM J J (kO J (Y4 (j := ka) J J (by first | decide | omega) (by omega) ?_))))))))))))))));obtain ⟨bi19, hb17, hr18⟩ := hm9 ka (by omega);refine kO J (W7 J hb17 (kM J J (kO J (Y4 (j := kb) J J (by first | decide | omega) (by omega) (kO J (W7 J (hr18 kb (by omega)) ?_))))));have hmb := hm.lo ka kb (by omega) (by omega);have hmc := hm.hi ka kb (by omega) (by omega);refine kO J (Q4 J J (by omega) (kO J (Y4 (j := kb) J J (by omega) (by omega) (kZ J (W8 J J (by rw [xs_set]; exact (.next .here)) (by rw [W4]; omega) (Q0 (rS (kM J J (kM J J (kM J J (kO J (Z7 J J (kO J (Y4 (j := kb) J J (by omega) (by omega) (kZ J (Q7 J J .here (stc_over (by omega)) (by rw [Nat.ble_eq, stc_len]; omega) J J (Q0 (rI (kM J J (Q0 (W0 (rS (kM J J (kM J J (kO J (Y4 (j := kb) J J (by first | decide | omega) (by omega) ?_))))))))))))))))))))))))));obtain ⟨bi22, hb20, hr21⟩ := hF9 kb (by omega);refine kO J (W7 J hb20 (kM J J (kO J (Y4 (j := ka) J J (by first | decide | omega) (by omega) (kO J (W7 J (hr21 ka (by omega)) (kO J (a_gtr J J (fun h23 => ?_) (fun h23 => ?_)))))))))
         ·refine kM J J (kG J J (Y3 J (kG J J (Y3 J (kG J J (Y4 (j := ka) J J (by omega) (by omega) (kG J J (V5 (x := ((Z2 x3 kb (x3 ka + m ka kb))) (ka)) J (.next .here) (by rw [W4]; omega) (V4 (by omega)) (kG J J (Y3 J (kG J J (Y3 J (kG J J (Y4 (j := kb) J J (by first | decide | omega) (by omega) ?_))))))))))))))
          obtain ⟨bi26, hb24, hr25⟩ := hm9 kb (by omega);refine kG J J (W7 J hb24 (kG J J (Y3 J (kG J J (Y4 (j := ka) J J (by first | decide | omega) (by omega) (kG J J (W7 J (hr25 ka (by omega)) ?_)))))));have hmd := hm.lo kb ka (by omega) (by omega);have hme := hm.hi kb ka (by omega) (by omega);have hbb4 := hRh4.bd hs9 hN (show ka < N by omega);refine kG J J (a_sub J J (by omega) (kG J J (Y3 J (kG J J (Y3 J (kG J J (Y4 (j := kb) J J (by omega) (by omega) (kG J J (V5 (x := ((Z2 x3 kb (x3 ka + m ka kb))) (kb)) J (.next .here) (by rw [W4]; omega) (V4 (by omega)) (kG J J (Q6 J J (fun h27 => ?_) (fun h27 => ?_))))))))))))
          ·have hr2 : Ra m F ka kb true (-(m kb ka)) := .inr ⟨rfl, by assumption, rfl⟩
           have hne2 := (hr2.pot hm hs9 (show ka < N by omega) (show kb < N by omega)).2.2.2;obtain ⟨hRh5, hlt5⟩ := hRh4.rlx hm hs9 hN (show ka < N by omega) (show kb < N by omega) hxa4 hr2 (by omega);rw [<- Int.sub_eq_add_neg] at hRh5 hlt5;have hPs5 := hPs4.low (b2 := kb + 1) hlt5;have hxa5 : ¬ (Z2 (Z2 x3 kb (x3 ka + m ka kb)) kb ((Z2 x3 kb (x3 ka + m ka kb)) ka - m kb ka)) ka = 1000000000 := by rw [Q1 hne2]; exact hxa4
           refine kO J (Q3 J J J (Q0 (Y0 J (rS (kM J J (kM J J (kM J J (kM J J (kO J (Y4 (j := ka) J J (by omega) (by omega) (kO J (V5 (x := ((Z2 x3 kb (x3 ka + m ka kb))) (ka)) J (.next .here) (by rw [W4]; omega) (V4 (by omega)) (kM J J (kM J J (kO J (Y4 (j := kb) J J (by first | decide | omega) (by omega) ?_))))))))))))))));obtain ⟨bi30, hb28, hr29⟩ := hm9 kb (by omega);refine kO J (W7 J hb28 (kM J J (kO J (Y4 (j := ka) J J (by first | decide | omega) (by omega) (kO J (W7 J (hr29 ka (by omega)) ?_))))));have hmd := hm.lo kb ka (by omega) (by omega);have hme := hm.hi kb ka (by omega) (by omega);have hbb4 := hRh4.bd hs9 hN (show ka < N by omega);refine kO J (a_sub J J (by omega) (kO J (Y4 (j := kb) J J (by omega) (by omega) (kZ J (W8 J J (by rw [xs_set]; exact (.next .here)) (by rw [W4]; omega) (Q0 (rS (kM J J (kM J J (kM J J (kO J (Z7 J J (kO J (Y4 (j := kb) J J (by omega) (by omega) (kZ J (Q7 J J .here (stc_over (by omega)) (by rw [Nat.ble_eq, stc_len]; omega) J J (Q0 (rI (kM J J (Q0 (V1 (W0 (rI (kO J (Q4 J J (by omega) (kM J J (Q0 (W0 ?_))))))))))))))))))))))))))));exact ⟨rfl, _, _, _, (show N - (kb + 1) < N - kb by omega), (lc 0 J (lc 1 J (lc 2 J (lc 8 J (lc 9 J (lc 11 J (lc 12 J (lc 43 J (lc 44 J (lc 53 J (lc 54 J Less.nil))))))))))), (.q (.q .slnil)), ⟨kb + 1, (Z2 (Z2 x3 kb (x3 ka + m ka kb)) kb ((Z2 x3 kb (x3 ka + m ka kb)) ka - m kb ka)), (Z2 (Z2 f3 kb (ka : Int)) kb (ka : Int)), (Z2 (Z2 bk3 kb false) kb true), (Z2 (Z2 T3 kb c3) kb (c3 + 1)), ((c3 + 1) + 1), true, rfl, rfl, rfl, by omega, hRh5, hPs5, hxa5⟩⟩
          ·have hRh5 := hRh4
           have hPs5 := hPs4.tru (a' := ka) (b' := kb + 1);have hxa5 := hxa4;refine kO J (Q3 J J J (Q0 (U0 J (W1 (V1 (W0 (rI (kO J (Q4 J J (by omega) (kM J J (Q0 (W0 ?_))))))))))));exact ⟨rfl, _, _, _, (show N - (kb + 1) < N - kb by omega), (lc 0 J (lc 1 J (lc 2 J (lc 8 J (lc 9 J (lc 11 J (lc 12 J (lc 43 J (lc 44 J (lc 53 J (lc 54 J Less.nil))))))))))), (.q (.q .slnil)), ⟨kb + 1, (Z2 x3 kb (x3 ka + m ka kb)), (Z2 f3 kb (ka : Int)), (Z2 bk3 kb false), (Z2 T3 kb c3), (c3 + 1), true, rfl, rfl, rfl, by omega, hRh5, hPs5, hxa5⟩⟩
         ·have hRh5 := hRh4
          have hPs5 := hPs4.tru (a' := ka) (b' := kb + 1);have hxa5 := hxa4;refine kM J J (V0 J J (V0 J J (V0 J J (V0 J J (V0 J J (V0 J J (V0 J J (V0 J J (V0 J J (V0 J J (V0 J J (V0 J J (V0 J J (V0 J J (V0 J J (V0 J J (V0 J J (kO J (Q2 J J J (Q0 (U0 J (W1 (V1 (W0 ?_))))))))))))))))))))))));refine rI (kO J (Q4 J J (by omega) (kM J J (Q0 (W0 ?_)))));exact ⟨rfl, _, _, _, (show N - (kb + 1) < N - kb by omega), (lc 0 J (lc 1 J (lc 2 J (lc 8 J (lc 9 J (lc 11 J (lc 12 J (lc 43 J (lc 44 J (lc 53 J (lc 54 J Less.nil))))))))))), (.q (.q .slnil)), ⟨kb + 1, (Z2 x3 kb (x3 ka + m ka kb)), (Z2 f3 kb (ka : Int)), (Z2 bk3 kb false), (Z2 T3 kb c3), (c3 + 1), true, rfl, rfl, rfl, by omega, hRh5, hPs5, hxa5⟩⟩
        ·have hRh4 := hRh3
         have hPs4 := hPs3;have hxa4 := hxa3;refine kO J (Q3 J J J (Q0 (U0 J (W1 (W0 (rS (kM J J (kM J J (kO J (Y4 (j := kb) J J (by first | decide | omega) (by omega) ?_))))))))));obtain ⟨bi33, hb31, hr32⟩ := hF9 kb (by omega);refine kO J (W7 J hb31 (kM J J (kO J (Y4 (j := ka) J J (by first | decide | omega) (by omega) (kO J (W7 J (hr32 ka (by omega)) (kO J (a_gtr J J (fun h34 => ?_) (fun h34 => ?_)))))))))
         ·refine kM J J (kG J J (Y3 J (kG J J (Y3 J (kG J J (Y4 (j := ka) J J (by omega) (by omega) (kG J J (V5 (x := (x3) (ka)) J (.next .here) (by rw [W4]; omega) (V4 (by omega)) (kG J J (Y3 J (kG J J (Y3 J (kG J J (Y4 (j := kb) J J (by first | decide | omega) (by omega) ?_))))))))))))))
          obtain ⟨bi37, hb35, hr36⟩ := hm9 kb (by omega);refine kG J J (W7 J hb35 (kG J J (Y3 J (kG J J (Y4 (j := ka) J J (by first | decide | omega) (by omega) (kG J J (W7 J (hr36 ka (by omega)) ?_)))))));have hmd := hm.lo kb ka (by omega) (by omega);have hme := hm.hi kb ka (by omega) (by omega);have hbb4 := hRh4.bd hs9 hN (show ka < N by omega);refine kG J J (a_sub J J (by omega) (kG J J (Y3 J (kG J J (Y3 J (kG J J (Y4 (j := kb) J J (by omega) (by omega) (kG J J (V5 (x := (x3) (kb)) J (.next .here) (by rw [W4]; omega) (V4 (by omega)) (kG J J (Q6 J J (fun h38 => ?_) (fun h38 => ?_))))))))))))
          ·have hr2 : Ra m F ka kb true (-(m kb ka)) := .inr ⟨rfl, by assumption, rfl⟩
           have hne2 := (hr2.pot hm hs9 (show ka < N by omega) (show kb < N by omega)).2.2.2;obtain ⟨hRh5, hlt5⟩ := hRh4.rlx hm hs9 hN (show ka < N by omega) (show kb < N by omega) hxa4 hr2 (by omega);rw [<- Int.sub_eq_add_neg] at hRh5 hlt5;have hPs5 := hPs4.low (b2 := kb + 1) hlt5;have hxa5 : ¬ (Z2 x3 kb (x3 ka - m kb ka)) ka = 1000000000 := by rw [Q1 hne2]; exact hxa4
           refine kO J (Q3 J J J (Q0 (Y0 J (rS (kM J J (kM J J (kM J J (kM J J (kO J (Y4 (j := ka) J J (by omega) (by omega) (kO J (V5 (x := (x3) (ka)) J (.next .here) (by rw [W4]; omega) (V4 (by omega)) (kM J J (kM J J (kO J (Y4 (j := kb) J J (by first | decide | omega) (by omega) ?_))))))))))))))));obtain ⟨bi41, hb39, hr40⟩ := hm9 kb (by omega);refine kO J (W7 J hb39 (kM J J (kO J (Y4 (j := ka) J J (by first | decide | omega) (by omega) (kO J (W7 J (hr40 ka (by omega)) ?_))))));have hmd := hm.lo kb ka (by omega) (by omega);have hme := hm.hi kb ka (by omega) (by omega);have hbb4 := hRh4.bd hs9 hN (show ka < N by omega);refine kO J (a_sub J J (by omega) (kO J (Y4 (j := kb) J J (by omega) (by omega) (kZ J (W8 J J (by rw [xs_set]; exact (.next .here)) (by rw [W4]; omega) (Q0 (rS (kM J J (kM J J (kM J J (kO J (Z7 J J (kO J (Y4 (j := kb) J J (by omega) (by omega) (kZ J (Q7 J J .here (stc_over (by omega)) (by rw [Nat.ble_eq, stc_len]; omega) J J (Q0 (rI (kM J J (Q0 (V1 (W0 (rI (kO J (Q4 J J (by omega) (kM J J (Q0 (W0 ?_))))))))))))))))))))))))))));exact ⟨rfl, _, _, _, (show N - (kb + 1) < N - kb by omega), (lc 0 J (lc 1 J (lc 2 J (lc 8 J (lc 9 J (lc 11 J (lc 12 J (lc 43 J (lc 44 J (lc 53 J (lc 54 J Less.nil))))))))))), (.q (.q .slnil)), ⟨kb + 1, (Z2 x3 kb (x3 ka - m kb ka)), (Z2 f3 kb (ka : Int)), (Z2 bk3 kb true), (Z2 T3 kb c3), (c3 + 1), true, rfl, rfl, rfl, by omega, hRh5, hPs5, hxa5⟩⟩
          ·have hRh5 := hRh4
           have hPs5 := hPs4.go (b := kb) ⟨fun z1 z2 => (by omega), fun z => (by omega)⟩;have hxa5 := hxa4;refine kO J (Q3 J J J (Q0 (U0 J (W1 (V1 (W0 (rI (kO J (Q4 J J (by omega) (kM J J (Q0 (W0 ?_))))))))))));exact ⟨rfl, _, _, _, (show N - (kb + 1) < N - kb by omega), (lc 0 J (lc 1 J (lc 2 J (lc 8 J (lc 9 J (lc 11 J (lc 12 J (lc 43 J (lc 44 J (lc 53 J (lc 54 J Less.nil))))))))))), (.q (.q .slnil)), ⟨kb + 1, x3, f3, bk3, T3, c3, g3, rfl, rfl, rfl, by omega, hRh5, hPs5, hxa5⟩⟩
         ·have hRh5 := hRh4
          have hPs5 := hPs4.go (b := kb) ⟨fun z1 z2 => (by omega), fun z => (by omega)⟩;have hxa5 := hxa4;refine kM J J (V0 J J (V0 J J (V0 J J (V0 J J (V0 J J (V0 J J (V0 J J (V0 J J (V0 J J (V0 J J (V0 J J (V0 J J (V0 J J (V0 J J (V0 J J (V0 J J (V0 J J (kO J (Q2 J J J (Q0 (U0 J (W1 (V1 (W0 ?_))))))))))))))))))))))));refine rI (kO J (Q4 J J (by omega) (kM J J (Q0 (W0 ?_)))));exact ⟨rfl, _, _, _, (show N - (kb + 1) < N - kb by omega), (lc 0 J (lc 1 J (lc 2 J (lc 8 J (lc 9 J (lc 11 J (lc 12 J (lc 43 J (lc 44 J (lc 53 J (lc 54 J Less.nil))))))))))), (.q (.q .slnil)), ⟨kb + 1, x3, f3, bk3, T3, c3, g3, rfl, rfl, rfl, by omega, hRh5, hPs5, hxa5⟩⟩
       ·have hRh4 := hRh3
        have hPs4 := hPs3;have hxa4 := hxa3;refine kO J (Q3 J J J (kM J J (V0 J J (V0 J J (V0 J J (V0 J J (V0 J J (V0 J J (V0 J J (V0 J J (V0 J J (V0 J J (V0 J J (V0 J J (V0 J J (V0 J J (V0 J J (V0 J J (V0 J J (kO J (Q2 J J J (Q0 (U0 J (W1 (W0 ?_)))))))))))))))))))))))));refine rS (kM J J (kM J J (kO J (Y4 (j := kb) J J (by first | decide | omega) (by omega) ?_))));obtain ⟨bi44, hb42, hr43⟩ := hF9 kb (by omega);refine kO J (W7 J hb42 (kM J J (kO J (Y4 (j := ka) J J (by first | decide | omega) (by omega) (kO J (W7 J (hr43 ka (by omega)) (kO J (a_gtr J J (fun h45 => ?_) (fun h45 => ?_)))))))))
        ·refine kM J J (kG J J (Y3 J (kG J J (Y3 J (kG J J (Y4 (j := ka) J J (by omega) (by omega) (kG J J (V5 (x := (x3) (ka)) J (.next .here) (by rw [W4]; omega) (V4 (by omega)) (kG J J (Y3 J (kG J J (Y3 J (kG J J (Y4 (j := kb) J J (by first | decide | omega) (by omega) ?_))))))))))))))
         obtain ⟨bi48, hb46, hr47⟩ := hm9 kb (by omega);refine kG J J (W7 J hb46 (kG J J (Y3 J (kG J J (Y4 (j := ka) J J (by first | decide | omega) (by omega) (kG J J (W7 J (hr47 ka (by omega)) ?_)))))));have hmd := hm.lo kb ka (by omega) (by omega);have hme := hm.hi kb ka (by omega) (by omega);have hbb4 := hRh4.bd hs9 hN (show ka < N by omega);refine kG J J (a_sub J J (by omega) (kG J J (Y3 J (kG J J (Y3 J (kG J J (Y4 (j := kb) J J (by omega) (by omega) (kG J J (V5 (x := (x3) (kb)) J (.next .here) (by rw [W4]; omega) (V4 (by omega)) (kG J J (Q6 J J (fun h49 => ?_) (fun h49 => ?_))))))))))))
         ·have hr2 : Ra m F ka kb true (-(m kb ka)) := .inr ⟨rfl, by assumption, rfl⟩
          have hne2 := (hr2.pot hm hs9 (show ka < N by omega) (show kb < N by omega)).2.2.2;obtain ⟨hRh5, hlt5⟩ := hRh4.rlx hm hs9 hN (show ka < N by omega) (show kb < N by omega) hxa4 hr2 (by omega);rw [<- Int.sub_eq_add_neg] at hRh5 hlt5;have hPs5 := hPs4.low (b2 := kb + 1) hlt5;have hxa5 : ¬ (Z2 x3 kb (x3 ka - m kb ka)) ka = 1000000000 := by rw [Q1 hne2]; exact hxa4
          refine kO J (Q3 J J J (Q0 (Y0 J (rS (kM J J (kM J J (kM J J (kM J J (kO J (Y4 (j := ka) J J (by omega) (by omega) (kO J (V5 (x := (x3) (ka)) J (.next .here) (by rw [W4]; omega) (V4 (by omega)) (kM J J (kM J J (kO J (Y4 (j := kb) J J (by first | decide | omega) (by omega) ?_))))))))))))))));obtain ⟨bi52, hb50, hr51⟩ := hm9 kb (by omega);refine kO J (W7 J hb50 (kM J J (kO J (Y4 (j := ka) J J (by first | decide | omega) (by omega) (kO J (W7 J (hr51 ka (by omega)) ?_))))));have hmd := hm.lo kb ka (by omega) (by omega);have hme := hm.hi kb ka (by omega) (by omega);have hbb4 := hRh4.bd hs9 hN (show ka < N by omega);refine kO J (a_sub J J (by omega) (kO J (Y4 (j := kb) J J (by omega) (by omega) (kZ J (W8 J J (by rw [xs_set]; exact (.next .here)) (by rw [W4]; omega) (Q0 (rS (kM J J (kM J J (kM J J (kO J (Z7 J J (kO J (Y4 (j := kb) J J (by omega) (by omega) (kZ J (Q7 J J .here (stc_over (by omega)) (by rw [Nat.ble_eq, stc_len]; omega) J J (Q0 (rI (kM J J (Q0 (V1 (W0 (rI (kO J (Q4 J J (by omega) (kM J J (Q0 (W0 ?_))))))))))))))))))))))))))));exact ⟨rfl, _, _, _, (show N - (kb + 1) < N - kb by omega), (lc 0 J (lc 1 J (lc 2 J (lc 8 J (lc 9 J (lc 11 J (lc 12 J (lc 43 J (lc 44 J (lc 53 J (lc 54 J Less.nil))))))))))), (.q (.q .slnil)), ⟨kb + 1, (Z2 x3 kb (x3 ka - m kb ka)), (Z2 f3 kb (ka : Int)), (Z2 bk3 kb true), (Z2 T3 kb c3), (c3 + 1), true, rfl, rfl, rfl, by omega, hRh5, hPs5, hxa5⟩⟩
         ·have hRh5 := hRh4
          have hPs5 := hPs4.go (b := kb) ⟨fun z1 z2 => (by omega), fun z => (by omega)⟩;have hxa5 := hxa4;refine kO J (Q3 J J J (Q0 (U0 J (W1 (V1 (W0 (rI (kO J (Q4 J J (by omega) (kM J J (Q0 (W0 ?_))))))))))));exact ⟨rfl, _, _, _, (show N - (kb + 1) < N - kb by omega), (lc 0 J (lc 1 J (lc 2 J (lc 8 J (lc 9 J (lc 11 J (lc 12 J (lc 43 J (lc 44 J (lc 53 J (lc 54 J Less.nil))))))))))), (.q (.q .slnil)), ⟨kb + 1, x3, f3, bk3, T3, c3, g3, rfl, rfl, rfl, by omega, hRh5, hPs5, hxa5⟩⟩
        ·have hRh5 := hRh4
         have hPs5 := hPs4.go (b := kb) ⟨fun z1 z2 => (by omega), fun z => (by omega)⟩;have hxa5 := hxa4;refine kM J J (V0 J J (V0 J J (V0 J J (V0 J J (V0 J J (V0 J J (V0 J J (V0 J J (V0 J J (V0 J J (V0 J J (V0 J J (V0 J J (V0 J J (V0 J J (V0 J J (V0 J J (kO J (Q2 J J J (Q0 (U0 J (W1 (V1 (W0 ?_))))))))))))))))))))))));refine rI (kO J (Q4 J J (by omega) (kM J J (Q0 (W0 ?_)))));exact ⟨rfl, _, _, _, (show N - (kb + 1) < N - kb by omega), (lc 0 J (lc 1 J (lc 2 J (lc 8 J (lc 9 J (lc 11 J (lc 12 J (lc 43 J (lc 44 J (lc 53 J (lc 54 J Less.nil))))))))))), (.q (.q .slnil)), ⟨kb + 1, x3, f3, bk3, T3, c3, g3, rfl, rfl, rfl, by omega, hRh5, hPs5, hxa5⟩⟩
      ·have hRh4 := hRh3
       have hPs4 := hPs3;have hxa4 := hxa3;refine kM J J (V0 J J (V0 J J (V0 J J (V0 J J (V0 J J (V0 J J (V0 J J (V0 J J (kO J (Q2 J J J (kM J J (V0 J J (V0 J J (V0 J J (V0 J J (V0 J J (V0 J J (V0 J J (V0 J J (V0 J J (V0 J J (V0 J J (V0 J J (V0 J J ?_))))))))))))))))))))))));refine V0 J J (V0 J J (V0 J J (V0 J J (kO J (Q2 J J J (Q0 (U0 J (W1 (W0 (rS (kM J J (kM J J (kO J (Y4 (j := kb) J J (by first | decide | omega) (by omega) ?_))))))))))))));obtain ⟨bi55, hb53, hr54⟩ := hF9 kb (by omega);refine kO J (W7 J hb53 (kM J J (kO J (Y4 (j := ka) J J (by first | decide | omega) (by omega) (kO J (W7 J (hr54 ka (by omega)) (kO J (a_gtr J J (fun h56 => ?_) (fun h56 => ?_)))))))))
       ·refine kM J J (kG J J (Y3 J (kG J J (Y3 J (kG J J (Y4 (j := ka) J J (by omega) (by omega) (kG J J (V5 (x := (x3) (ka)) J (.next .here) (by rw [W4]; omega) (V4 (by omega)) (kG J J (Y3 J (kG J J (Y3 J (kG J J (Y4 (j := kb) J J (by first | decide | omega) (by omega) ?_))))))))))))))
        obtain ⟨bi59, hb57, hr58⟩ := hm9 kb (by omega);refine kG J J (W7 J hb57 (kG J J (Y3 J (kG J J (Y4 (j := ka) J J (by first | decide | omega) (by omega) (kG J J (W7 J (hr58 ka (by omega)) ?_)))))));have hmd := hm.lo kb ka (by omega) (by omega);have hme := hm.hi kb ka (by omega) (by omega);have hbb4 := hRh4.bd hs9 hN (show ka < N by omega);refine kG J J (a_sub J J (by omega) (kG J J (Y3 J (kG J J (Y3 J (kG J J (Y4 (j := kb) J J (by omega) (by omega) (kG J J (V5 (x := (x3) (kb)) J (.next .here) (by rw [W4]; omega) (V4 (by omega)) (kG J J (Q6 J J (fun h60 => ?_) (fun h60 => ?_))))))))))))
        ·have hr2 : Ra m F ka kb true (-(m kb ka)) := .inr ⟨rfl, by assumption, rfl⟩
         have hne2 := (hr2.pot hm hs9 (show ka < N by omega) (show kb < N by omega)).2.2.2;obtain ⟨hRh5, hlt5⟩ := hRh4.rlx hm hs9 hN (show ka < N by omega) (show kb < N by omega) hxa4 hr2 (by omega);rw [<- Int.sub_eq_add_neg] at hRh5 hlt5;have hPs5 := hPs4.low (b2 := kb + 1) hlt5;have hxa5 : ¬ (Z2 x3 kb (x3 ka - m kb ka)) ka = 1000000000 := by rw [Q1 hne2]; exact hxa4
         refine kO J (Q3 J J J (Q0 (Y0 J (rS (kM J J (kM J J (kM J J (kM J J (kO J (Y4 (j := ka) J J (by omega) (by omega) (kO J (V5 (x := (x3) (ka)) J (.next .here) (by rw [W4]; omega) (V4 (by omega)) (kM J J (kM J J (kO J (Y4 (j := kb) J J (by first | decide | omega) (by omega) ?_))))))))))))))));obtain ⟨bi63, hb61, hr62⟩ := hm9 kb (by omega);refine kO J (W7 J hb61 (kM J J (kO J (Y4 (j := ka) J J (by first | decide | omega) (by omega) (kO J (W7 J (hr62 ka (by omega)) ?_))))));have hmd := hm.lo kb ka (by omega) (by omega);have hme := hm.hi kb ka (by omega) (by omega);have hbb4 := hRh4.bd hs9 hN (show ka < N by omega);refine kO J (a_sub J J (by omega) (kO J (Y4 (j := kb) J J (by omega) (by omega) (kZ J (W8 J J (by rw [xs_set]; exact (.next .here)) (by rw [W4]; omega) (Q0 (rS (kM J J (kM J J (kM J J (kO J (Z7 J J (kO J (Y4 (j := kb) J J (by omega) (by omega) (kZ J (Q7 J J .here (stc_over (by omega)) (by rw [Nat.ble_eq, stc_len]; omega) J J (Q0 (rI (kM J J (Q0 (V1 (W0 (rI (kO J (Q4 J J (by omega) (kM J J (Q0 (W0 ?_))))))))))))))))))))))))))));exact ⟨rfl, _, _, _, (show N - (kb + 1) < N - kb by omega), (lc 0 J (lc 1 J (lc 2 J (lc 8 J (lc 9 J (lc 11 J (lc 12 J (lc 43 J (lc 44 J (lc 53 J (lc 54 J Less.nil))))))))))), (.q (.q .slnil)), ⟨kb + 1, (Z2 x3 kb (x3 ka - m kb ka)), (Z2 f3 kb (ka : Int)), (Z2 bk3 kb true), (Z2 T3 kb c3), (c3 + 1), true, rfl, rfl, rfl, by omega, hRh5, hPs5, hxa5⟩⟩
        ·have hRh5 := hRh4
         have hPs5 := hPs4.go (b := kb) ⟨fun z1 z2 => (by omega), fun z => (by omega)⟩;have hxa5 := hxa4;refine kO J (Q3 J J J (Q0 (U0 J (W1 (V1 (W0 (rI (kO J (Q4 J J (by omega) (kM J J (Q0 (W0 ?_))))))))))));exact ⟨rfl, _, _, _, (show N - (kb + 1) < N - kb by omega), (lc 0 J (lc 1 J (lc 2 J (lc 8 J (lc 9 J (lc 11 J (lc 12 J (lc 43 J (lc 44 J (lc 53 J (lc 54 J Less.nil))))))))))), (.q (.q .slnil)), ⟨kb + 1, x3, f3, bk3, T3, c3, g3, rfl, rfl, rfl, by omega, hRh5, hPs5, hxa5⟩⟩
       ·have hRh5 := hRh4
        have hPs5 := hPs4.go (b := kb) ⟨fun z1 z2 => (by omega), fun z => (by omega)⟩;have hxa5 := hxa4;refine kM J J (V0 J J (V0 J J (V0 J J (V0 J J (V0 J J (V0 J J (V0 J J (V0 J J (V0 J J (V0 J J (V0 J J (V0 J J (V0 J J (V0 J J (V0 J J (V0 J J (V0 J J (kO J (Q2 J J J (Q0 (U0 J (W1 (V1 (W0 ?_))))))))))))))))))))))));refine rI (kO J (Q4 J J (by omega) (kM J J (Q0 (W0 ?_)))));exact ⟨rfl, _, _, _, (show N - (kb + 1) < N - kb by omega), (lc 0 J (lc 1 J (lc 2 J (lc 8 J (lc 9 J (lc 11 J (lc 12 J (lc 43 J (lc 44 J (lc 53 J (lc 54 J Less.nil))))))))))), (.q (.q .slnil)), ⟨kb + 1, x3, f3, bk3, T3, c3, g3, rfl, rfl, rfl, by omega, hRh5, hPs5, hxa5⟩⟩
     ·refine Q0 (rQ (U0 J (W5 (W3 (W3 (U3 (V1 (W0 (rI (kO J (Q4 J J (by omega) (kM J J (Q0 (W0 ?_))))))))))))))
      exact ⟨rfl, _, _, _, (show N - (ka + 1) < N - ka by omega), (lc 0 J (lc 1 J (lc 2 J (lc 8 J (lc 9 J (lc 11 J (lc 43 J (lc 44 J Less.nil)))))))), (.q (.q .slnil)), ⟨ka + 1, x3, f3, bk3, T3, c3, g3, rfl, rfl, rfl, by omega, hRh3, (Ps.row (Eq.mp (congrArg (fun q => Ps m F N x x3 g3 ka q) (show kb = N by omega)) hPs3))⟩⟩
   ·refine Q0 (rQ (U0 J (W5 (W3 (W3 (U3 (V1 (W0 ?_))))))))
    have hka2 : ka = N := by omega
    rw [hka2] at hPs2;have hlo2 := hRh2.low hs9 hN;have hms9 := hPs2.ms hlo2.1;have hgn := hg1 rfl;exact ⟨rfl, _, _, _, (show (tot x2 N + 100000000).toNat * 2 + g2.toNat < (tot x N + 100000000).toNat * 2 + gn by omega), (lc 0 J (lc 1 J (lc 2 J (lc 8 J (lc 9 J (lc 11 J Less.nil)))))), (.q (.q .slnil)), ⟨x2, f2, bk2, T2, c2, g2, g2.toNat, rfl, rfl, rfl, hRh2, (fun q => by rw [q]; rfl), (fun q => by rw [q] at hPs2; exact Rf.of hm hs9 hN hRh2 hPs2)⟩⟩
end
def Z0 : Nat -> Nat -> Int := fun _ _ => 0
theorem seg_nil {B : Nat -> Nat} {n i b : Nat} {R : List Ob} : .row b 3 false (ints (List.replicate n 0)) :: (seg B n Z0 i ++ R) = seg (updB B i b) n Z0 (i + 1) ++ R := by
 rw [show List.replicate n (0 : Int) = rowT Z0 n i by unfold rowT Z0; rw [List.map_const', List.length_range], <- List.cons_append, seg_new]
theorem MT.of {ls : List (List Int)} {M : Nat} {D : Nat -> Nat -> Int} (h : DT ls (M + 1) D) (hS : Sm D (M + 1)) : MT D (M + 1) := ⟨fun a ha => (h a ha).own, hS.lo, hS.hi⟩
theorem LS.start {ls : List (List Int)} {M : Nat} {m : Nat -> Nat -> Int} {y : Nat -> Int} {w : List Int} (hD : DT ls (M + 1) m) (hy : ∀ i, i < ls.length -> y (lb ls i) <= y (la ls i) + lw ls i) (hb : ∀ a, a < M + 1 -> -1300000 <= y a /\ y a <= 0) (hwl : w.length = M + 1) (hw : WOk w w.length) : LS m (M + 1) (du0 w M) (du0 w M) Z0 y := by
 obtain ⟨h1, h2⟩ := du_pos hwl hw;refine ⟨fun _ _ _ _ => Int.le_refl _, fun a b _ _ h => ?_, fun a b ha hb' hf => ?_, fun v hv => ?_, fun v hv => (hb v hv).1, fun v hv _ => (hb v hv).2, h2, fun a b _ _ => ?_⟩
 ·have h : (0 : Int) < 0 := h
  omega
 ·have := ((hD a ha).way b hb' hf).pot hy
  omega
 ·unfold nF
  rw [tot_nil (f := fun a => Z0 a v) (fun _ _ => rfl), tot_nil (f := fun b => Z0 v b) (fun _ _ => rfl)]; omega
 ·show (0 : Int) + pos (du0 w M) (M + 1) <= _
  have : pos (du0 w M) (M + 1) = posS (du0 w M) (M + 1) := rfl;omega
structure Se (N : Nat) (need x : Nat -> Int) (k : Nat) (to : Int) (lf : Bool) : Prop where
 no : lf = false -> ∀ u, u < k -> need u <= 0
 ex : lf = true -> ∃ u, u < N /\ 0 < need u
 tg : to = -1 ∨ ∃ a : Nat, to = (a : Int) /\ a < N /\ 0 < need a /\ ¬ x a = 1000000000
 un : to = -1 -> ∀ u, u < k -> 0 < need u -> x u = 1000000000
theorem Se.zero {N : Nat} {need x : Nat -> Int} : Se N need x 0 (-1) false := ⟨fun _ _ h => absurd h (Nat.not_lt_zero _), fun h => (by cases h), .inl rfl, fun _ _ h => absurd h (Nat.not_lt_zero _)⟩
theorem Se.any {N : Nat} {need x : Nat -> Int} {k : Nat} {to to2 : Int} {lf lf2 : Bool} (h : Se N need x k to lf) (hk : k < N) (h1 : need k <= 0 -> lf2 = lf) (h2 : 0 < need k -> lf2 = true) (h3 : (to2 = to /\ (0 < need k -> x k = 1000000000 ∨ ¬ to = -1)) ∨ (to2 = (k : Int) /\ 0 < need k /\ ¬ x k = 1000000000)) : Se N need x (k + 1) to2 lf2 := by
 refine ⟨fun q u hu => ?_, fun q => ?_, ?_, fun q u hu hn => ?_⟩
 ·by_cases c : 0 < need k
  ·rw [h2 c] at q; cases q
  ·rw [h1 (by omega)] at q
   by_cases e : u = k
   ·rw [e]; omega
   ·exact h.no q u (by omega)
 ·by_cases c : 0 < need k
  ·exact ⟨k, hk, c⟩
  ·exact h.ex (by rw [<- h1 (by omega)]; exact q)
 ·rcases h3 with ⟨e, _⟩ | ⟨e, e1, e2⟩
  ·rw [e]; exact h.tg
  ·exact .inr ⟨k, e, hk, e1, e2⟩
 ·rcases h3 with ⟨e, e1⟩ | ⟨e, e1, e2⟩
  ·rw [e] at q
   by_cases c : u = k
   ·rw [c] at hn ⊢; exact (e1 hn).resolve_right (fun z => z q)
   ·exact h.un q u (by omega) hn
  ·omega
def cn (N : Nat) (r : Nat -> Nat) (v : Nat) : Nat := cnB (fun u => decide (r u < r v)) N
theorem cn_le {N : Nat} {r : Nat -> Nat} {v : Nat} : cn N r v <= N := cnB_le
theorem cnB_mono {f g : Nat -> Bool} (h : ∀ u, f u = true -> g u = true) : ∀ {N : Nat}, cnB f N <= cnB g N
 | 0 => Nat.le_refl _
 | N + 1 => by
  have := cnB_mono h (N := N);show cnB f N + (if f N = true then 1 else 0) <= cnB g N + (if g N = true then 1 else 0);by_cases c : f N = true
  ·rw [if_pos c, if_pos (h N c)]; omega
  ·rw [if_neg c]; omega
theorem cn_lt {N : Nat} {r : Nat -> Nat} {a v : Nat} (ha : a < N) (h : r a < r v) : cn N r a < cn N r v := by
 have h1 := cnB_upd (f := fun u => decide (r u < r a)) (b := a) (decide_eq_false (Nat.lt_irrefl _)) ha;have h2 := cnB_mono (f := Z2 (fun u => decide (r u < r a)) a true) (g := fun u => decide (r u < r v)) (fun u hu => by
  by_cases e : u = a
  ·rw [e]; exact decide_eq_true h
  ·rw [Q1 e] at hu
   exact decide_eq_true (Nat.lt_trans (of_decide_eq_true hu) h)) (N := N)
 unfold cn;omega
section
variable {X : FuncId -> List Value -> St -> (Value -> St -> Bool) -> Bool}
end
end Ev
end Go.Proofs.YtoeklhdklcpllaaGreat
