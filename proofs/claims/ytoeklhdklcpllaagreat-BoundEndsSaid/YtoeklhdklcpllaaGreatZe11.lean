import Derived.Test.YtoeklhdklcpllaaGreatZe10
import Derived.Test.YtoeklhdklcpllaaGreatZe09
set_option linter.unusedVariables false
set_option linter.unusedSimpArgs false
namespace Go.Proofs.YtoeklhdklcpllaaGreat
open Go Go.RowKit
namespace Ev
theorem Gh.rws {ls : List (List Int)} {M k v : Nat} {s : Fs} (hl : lmB (M : Int) ls = true) (hk : 0 < k) (hv : v < M + 1) (h : ∃ rd t T, Gh ls (M + 1) k s rd t T /\ G2 ls k v s.x rd) : ∀ {q : Nat}, q <= (nl ls ls.length v).length -> ∃ rd t T, Gh ls (M + 1) k (rwS ls s v q) rd t T /\ G2 ls k v (rwS ls s v q).x rd /\ G3 ls v q (rwS ls s v q).x
 | 0, _ => by
  obtain ⟨rd, t, T, h1, h2⟩ := h;exact ⟨rd, t, T, h1, h2, fun p hp => absurd hp (Nat.not_lt_zero p)⟩
 | q + 1, hq => by
  obtain ⟨rd, t, T, h1, h2, h3⟩ := Gh.rws hl hk hv h (q := q) (by omega);obtain ⟨i, hi, hil, hn⟩ := nl_mem (ls := ls) (v := v) (k := ls.length) (q := q) (by omega);have := Gh.step hl hk hv hi hil hn h1 h2 h3;have e : rwS ls s v (q + 1) = rlx ls (rwS ls s v q) v i := by
   show rlx ls (rwS ls s v q) v ((nl ls ls.length v).getD q 0).toNat = _;rw [hi, Int.toNat_natCast]
  rw [e];exact this
theorem cl_of {ls : List (List Int)} {M v : Nat} {x : Nat -> Int} (hl : lmB (M : Int) ls = true) (h : G3 ls v (nl ls ls.length v).length x) : Cl ls x v := by
 intro i hi ha;have hL := lim_of hl hi;obtain ⟨q, h1, h2⟩ := nl_has (ls := ls) (v := v) (i := i) (.inl (by rw [hL.ea, ha])) (k := ls.length) hi;exact h q h1 i h2 (fun e => hL.ne (by rw [ha, e]))
theorem Gh.lws {ls : List (List Int)} {M k : Nat} {s : Fs} (hl : lmB (M : Int) ls = true) (hk : 0 < k) (hF : ∀ v, v < M + 1 -> ¬ (lwS ls s v).x v = 1000000000) (h : ∃ rd t T, Gh ls (M + 1) k s rd t T) : ∀ {v : Nat}, v <= M + 1 -> ∃ rd t T, Gh ls (M + 1) k (lwS ls s v) rd t T /\ G2 ls k v (lwS ls s v).x rd
 | 0, _ => by
  obtain ⟨rd, t, T, h1⟩ := h;exact ⟨rd, t, T, h1, fun a ha => absurd ha (Nat.not_lt_zero a)⟩
 | v + 1, hv => by
  have ih := Gh.lws hl hk hF h (v := v) (by omega);rw [lws_go (hF v (by omega))];obtain ⟨rd, t, T, h1, h2, h3⟩ := Gh.rws hl hk (show v < M + 1 by omega) ih (Nat.le_refl _);refine ⟨rd, t, T, h1, fun a ha hr => ?_⟩;by_cases e : a = v
  ·rw [e]; exact cl_of hl h3
  ·exact h2 a (by omega) hr
theorem Gh.stl {ls : List (List Int)} {M : Nat} (hl : lmB (M : Int) ls = true) (h4 : ls.length <= 400) (hM : M <= 64) : ∀ {r : Nat}, r <= M + 1 -> ∃ rd t T, Gh ls (M + 1) r (stl ls (M + 1) r) rd t T /\ G2 ls r (M + 1) (stl ls (M + 1) r).x rd
 | 0, _ => ⟨fun _ => 0, fun _ => 0, 0, ⟨fun b _ hr => absurd hr (Nat.lt_irrefl 0), fun _ => Nat.le_refl _, fun _ => Nat.le_refl _, fun a _ hr => by omega, .inl rfl, fun a _ _ => rfl⟩, fun a _ hr => by omega⟩
 | r + 1, hr => by
  obtain ⟨rd, t, T, h1, h2⟩ := Gh.stl hl h4 hM (r := r) (by omega);have hI := Iv.st0 (Iv.stl hl h4 hM (r := r) (by omega));refine Gh.lws (s := Ev.st0 (Ev.stl ls (M + 1) r)) hl (Nat.succ_pos r) (fun v hv => ?_) ⟨rd, t, T, h1.par, h1.tT, fun a => by have := h1.rk a; omega, fun a ha hr => h2 a ha (by omega), .inl rfl, h1.zr⟩ (Nat.le_refl _);have := (Iv.lws hl h4 hI (v := v) (by omega)).bd v hv;omega
def sumC (ls : List (List Int)) (c : Nat -> Nat × Nat × Nat × Int) (a : Nat) : Nat -> Int
 | 0 => 0
 | d + 1 => sumC ls c a d + lw ls (c (itr c a d)).1
theorem chain_low {ls : List (List Int)} {c : Nat -> Nat × Nat × Nat × Int} {x : Nat -> Int} {t rd : Nat -> Nat} {a : Nat} (h : ∀ m, Pq ls x t rd (c (itr c a m)) (itr c a m)) : ∀ d, x (itr c a d) + sumC ls c a d <= x a /\ (x (itr c a d) + sumC ls c a d = x a -> t (itr c a d) + d <= t a)
 | 0 => ⟨by show x a + 0 <= x a; omega, fun _ => Nat.le_refl _⟩
 | d + 1 => by
  obtain ⟨h1, h2⟩ := chain_low h d;obtain ⟨_, _, _, h3, h4, _⟩ := h d;show x (c (itr c a d)).2.1 + (sumC ls c a d + lw ls (c (itr c a d)).1) <= x a /\ (x (c (itr c a d)).2.1 + (sumC ls c a d + lw ls (c (itr c a d)).1) = x a -> t (c (itr c a d)).2.1 + (d + 1) <= t a);refine ⟨by omega, fun e => ?_⟩;have e1 := h2 (by omega);have e2 := h4 (by omega);omega
theorem uns_par {ls : List (List Int)} {M l0 : Nat} (hl : lmB (M : Int) ls = true) (h4 : ls.length <= 400) (hM : M <= 64) (hl0 : l0 < M + 1) (he : (stl ls (M + 1) (M + 1)).l = (l0 : Int)) : ∃ rd t, ∀ m, Pq ls (stl ls (M + 1) (M + 1)).x t rd ((stl ls (M + 1) (M + 1)).c (itr (stl ls (M + 1) (M + 1)).c l0 m)) (itr (stl ls (M + 1) (M + 1)).c l0 m) := by
 obtain ⟨rd, t, T, h1, h2⟩ := Gh.stl hl h4 hM (r := M + 1) (Nat.le_refl _);have hc := (Iv.stl hl h4 hM (r := M + 1) (Nat.le_refl _)).par;refine ⟨rd, t, ?_⟩;have hr0 : rd l0 = M + 1 := by
  rcases h1.last with q | ⟨u, _, q, r⟩
  ·omega
  ·have : u = l0 := by omega
   rw [<- this]; exact r
 have hrd : ∀ j, j <= M + 1 -> M + 1 <= rd (itr (stl ls (M + 1) (M + 1)).c l0 j) + j := by
  intro j
  induction j with
  | zero => intro _; show M + 1 <= rd l0 + 0; omega
  | succ j ih =>
   intro hj;have ih := ih (by omega);obtain ⟨_, _, _, _, _, h6⟩ := h1.par _ (itr_lt hc hl0 j) (by omega);show M + 1 <= rd ((stl ls (M + 1) (M + 1)).c (itr (stl ls (M + 1) (M + 1)).c l0 j)).2.1 + (j + 1);omega
 obtain ⟨i, j, hij, hj, e⟩ := pigeon (M + 1) (itr (stl ls (M + 1) (M + 1)).c l0) (fun i _ => itr_lt hc hl0 i);have low : ∀ m, ∃ m', m' < M + 1 /\ itr (stl ls (M + 1) (M + 1)).c l0 m = itr (stl ls (M + 1) (M + 1)).c l0 m' := by
  intro m
  induction m using Nat.strongRecOn with
  | ind m ih =>
   by_cases q : m < M + 1
   ·exact ⟨m, q, rfl⟩
   ·obtain ⟨m', h5, h6⟩ := ih (i + (m - j)) (by omega)
    refine ⟨m', h5, ?_⟩;rw [<- h6, itr_add, e, <- itr_add, show j + (m - j) = m by omega]
 intro m;obtain ⟨m', h5, h6⟩ := low m;rw [h6];exact h1.par _ (itr_lt hc hl0 m') (by have := hrd m' (by omega); omega)
theorem uns_neg {ls : List (List Int)} {M l0 k : Nat} (hl : lmB (M : Int) ls = true) (h4 : ls.length <= 400) (hM : M <= 64) (hl0 : l0 < M + 1) (he : (stl ls (M + 1) (M + 1)).l = (l0 : Int))
 (hp : itr (stl ls (M + 1) (M + 1)).c (itr (stl ls (M + 1) (M + 1)).c l0 (M + 1)) (k + 1) = itr (stl ls (M + 1) (M + 1)).c l0 (M + 1)) :
 (∀ m, ((stl ls (M + 1) (M + 1)).c (itr (stl ls (M + 1) (M + 1)).c (itr (stl ls (M + 1) (M + 1)).c l0 (M + 1)) m)).1 < ls.length /\ lb ls ((stl ls (M + 1) (M + 1)).c (itr (stl ls (M + 1) (M + 1)).c (itr (stl ls (M + 1) (M + 1)).c l0 (M + 1)) m)).1 = itr (stl ls (M + 1) (M + 1)).c (itr (stl ls (M + 1) (M + 1)).c l0 (M + 1)) m /\ la ls ((stl ls (M + 1) (M + 1)).c (itr (stl ls (M + 1) (M + 1)).c (itr (stl ls (M + 1) (M + 1)).c l0 (M + 1)) m)).1 = itr (stl ls (M + 1) (M + 1)).c (itr (stl ls (M + 1) (M + 1)).c l0 (M + 1)) (m + 1)) /\
 sumC ls (stl ls (M + 1) (M + 1)).c (itr (stl ls (M + 1) (M + 1)).c l0 (M + 1)) (k + 1) < 0 := by
 obtain ⟨rd, t, h⟩ := uns_par hl h4 hM hl0 he;have h' : ∀ m, Pq ls (stl ls (M + 1) (M + 1)).x t rd ((stl ls (M + 1) (M + 1)).c (itr (stl ls (M + 1) (M + 1)).c (itr (stl ls (M + 1) (M + 1)).c l0 (M + 1)) m)) (itr (stl ls (M + 1) (M + 1)).c (itr (stl ls (M + 1) (M + 1)).c l0 (M + 1)) m) := fun m => by
  have := h (M + 1 + m);rw [itr_add] at this;exact this
 refine ⟨fun m => ⟨(h' m).1, (h' m).2.2.1, (h' m).2.1⟩, ?_⟩;obtain ⟨h5, h6⟩ := chain_low h' (k + 1);rw [hp] at h5 h6;by_cases q : sumC ls (stl ls (M + 1) (M + 1)).c (itr (stl ls (M + 1) (M + 1)).c l0 (M + 1)) (k + 1) = 0
 ·have := h6 (by omega)
  omega
 ·omega
section
variable {X : FuncId -> List Value -> St -> (Value -> St -> Bool) -> Bool}
end
theorem rlx_l {ls : List (List Int)} {M v i : Nat} {s : Fs} (h : Lim ls M i) (hl : (rlx ls s v i).l = -1) : rlx ls s v i = s /\ (lb ls i = v ∨ s.x (lb ls i) <= s.x v + lw ls i) := by
 rw [rlx_eq h] at hl ⊢;by_cases c1 : lb ls i = v
 ·rw [if_pos c1]; exact ⟨rfl, .inl c1⟩
 ·rw [if_neg c1] at hl ⊢
  by_cases c2 : s.x v + lw ls i < s.x (lb ls i)
  ·rw [if_pos c2] at hl
   have : ((lb ls i : Nat) : Int) = -1 := hl;omega
  ·rw [if_neg c2]; exact ⟨rfl, .inr (by omega)⟩
theorem rws_l {ls : List (List Int)} {M v : Nat} {s : Fs} (hl : lmB (M : Int) ls = true) : ∀ {q : Nat}, q <= (nl ls ls.length v).length -> (rwS ls s v q).l = -1 -> rwS ls s v q = s /\ G3 ls v q s.x
 | 0, _, _ => ⟨rfl, fun p hp => absurd hp (Nat.not_lt_zero p)⟩
 | q + 1, hq, h => by
  obtain ⟨i, hi, hil, hn⟩ := nl_mem (ls := ls) (v := v) (k := ls.length) (q := q) (by omega);have e : rwS ls s v (q + 1) = rlx ls (rwS ls s v q) v i := by
   show rlx ls (rwS ls s v q) v ((nl ls ls.length v).getD q 0).toNat = _;rw [hi, Int.toNat_natCast]
  rw [e] at h ⊢;obtain ⟨e2, h2⟩ := rlx_l (lim_of hl hil) h;rw [e2] at h ⊢;obtain ⟨e3, h3⟩ := rws_l hl (q := q) (by omega) h;rw [e3] at h2 ⊢;refine ⟨rfl, fun p hp i' hi' hne => ?_⟩;by_cases c : p = q
  ·subst c
   have : i' = i := by rw [hi] at hi'; omega
   subst this;rcases h2 with h2 | h2
   ·exact absurd h2 hne
   ·exact h2
  ·exact h3 p (by omega) i' hi' hne
theorem lws_l {ls : List (List Int)} {M : Nat} {s : Fs} (hl : lmB (M : Int) ls = true) : ∀ {v : Nat}, (lwS ls s v).l = -1 -> lwS ls s v = s /\ ∀ a, a < v -> ¬ s.x a = 1000000000 -> Cl ls s.x a
 | 0, _ => ⟨rfl, fun a ha => absurd ha (Nat.not_lt_zero a)⟩
 | v + 1, h => by
  by_cases c : (lwS ls s v).x v = 1000000000
  ·rw [lws_free c] at h ⊢
   obtain ⟨e, h2⟩ := lws_l hl h;rw [e] at c;refine ⟨e, fun a ha hf => ?_⟩;by_cases q : a = v
   ·rw [q] at hf; exact absurd c hf
   ·exact h2 a (by omega) hf
  ·rw [lws_go c] at h ⊢
   obtain ⟨e1, h1⟩ := rws_l hl (Nat.le_refl _) h;rw [e1] at h ⊢;obtain ⟨e, h2⟩ := lws_l hl h;rw [e] at h1 ⊢;refine ⟨rfl, fun a ha hf => ?_⟩;by_cases q : a = v
   ·rw [q]; exact cl_of hl h1
   ·exact h2 a (by omega) hf
theorem itr_root {ls : List (List Int)} {M : Nat} {c : Nat -> Nat × Nat × Nat × Int} {x : Nat -> Int} {t rd : Nat -> Nat} (hl : lmB (M : Int) ls = true) (hc : ∀ a, a < M + 1 -> (c a).2.1 < M + 1) (hz : ∀ a, a < M + 1 -> rd a = 0 -> x a = 0)
 (hp : ∀ b, b < M + 1 -> 0 < rd b -> Pq ls x t rd (c b) b) (hx : ∀ i, i < ls.length -> x (lb ls i) <= x (la ls i) + lw ls i) {v : Nat} (hv : v < M + 1) : -20000 * ((M : Int) + 1) <= x v := by
 have hw : ∀ i, i < ls.length -> -20000 <= lw ls i := fun i hi => by
  obtain ⟨u0, u1, y2, y3, e, hc⟩ := lm_row hl hi;have e3 : ls.getD i [] = [(u0 : Int), (u1 : Int), y2, y3] := by rw [List.getD_eq_getElem?_getD, e]; rfl
  have e2 : lw ls i = y2 := by unfold lw; rw [e3]; rfl
  omega
 have step : ∀ j, 0 < rd (itr c v j) -> t (itr c v (j + 1)) < t (itr c v j) /\ x (itr c v (j + 1)) - 20000 <= x (itr c v j) := fun j hj => by
  obtain ⟨h1, h2, h3, h4, h5, h6⟩ := hp _ (itr_lt hc hv j) hj;have h7 := hx _ h1;rw [h2, h3] at h7;have h8 := hw _ h1;exact ⟨h5 (by omega), by show x (c (itr c v j)).2.1 - 20000 <= _; omega⟩
 have down : ∀ j, (∀ i, i < j -> 0 < rd (itr c v i)) -> x (itr c v j) - 20000 * (j : Int) <= x v /\ ∀ i, i < j -> t (itr c v j) < t (itr c v i) := by
  intro j
  induction j with
  | zero => intro _; exact ⟨by show x v - 20000 * 0 <= x v; omega, fun i hi => absurd hi (Nat.not_lt_zero i)⟩
  | succ j ih =>
   intro h;obtain ⟨h1, h2⟩ := ih (fun i hi => h i (by omega));obtain ⟨h3, h4⟩ := step j (h j (by omega));refine ⟨by omega, fun i hi => ?_⟩;by_cases q : i = j
   ·rw [q]; exact h3
   ·have := h2 i (by omega); omega
 obtain ⟨i, j, hij, hj, e⟩ := pigeon (M + 1) (itr c v) (fun i _ => itr_lt hc hv i);have hex : ∃ k, k <= M + 1 /\ rd (itr c v k) = 0 /\ ∀ i, i < k -> 0 < rd (itr c v i) := by
  refine Classical.byContradiction (fun q => ?_);have all : ∀ k, k <= M + 1 -> 0 < rd (itr c v k) := by
   intro k
   induction k using Nat.strongRecOn with
   | ind k ih =>
    intro hk;refine Nat.pos_of_ne_zero (fun z => q ⟨k, hk, z, fun i hi => ih i hi (by omega)⟩)
  have := (down j (fun i hi => all i (by omega))).2 i hij;rw [e] at this;omega
 obtain ⟨k, h1, h2, h3⟩ := hex;have h4 := (down k h3).1;have h5 := hz _ (itr_lt hc hv k) h2;omega
theorem set_pt {ls : List (List Int)} {M : Nat} (hl : lmB (M : Int) ls = true) (h4 : ls.length <= 400) (hM : M <= 64) (h : ¬ Uns ls (M + 1)) : ∃ x : Nat -> Int, (∀ i, i < ls.length -> x (lb ls i) <= x (la ls i) + lw ls i) /\ ∀ a, a < M + 1 -> -1300000 <= x a /\ x a <= 0 := by
 have : ∃ r, r < M + 1 /\ (stl ls (M + 1) (r + 1)).l = -1 := by
  refine Classical.byContradiction (fun q => h (fun r hr e => q ⟨r, hr, e⟩))
 obtain ⟨r, hr, e⟩ := this;obtain ⟨e2, h2⟩ := lws_l (s := st0 (stl ls (M + 1) r)) hl e;have hI := Iv.stl hl h4 hM (r := r) (by omega);have hb := hI.bd;have hx : ∀ i, i < ls.length -> (stl ls (M + 1) r).x (lb ls i) <= (stl ls (M + 1) r).x (la ls i) + lw ls i := fun i hi => by
  have hL := lim_of hl hi;exact h2 (la ls i) hL.ha (by have := hb (la ls i) hL.ha; show ¬ (stl ls (M + 1) r).x (la ls i) = 1000000000; omega) i hi rfl
 obtain ⟨rd, t, T, g1, _⟩ := Gh.stl hl h4 hM (r := r) (by omega);refine ⟨(stl ls (M + 1) r).x, hx, fun a ha => ⟨?_, (hb a ha).2⟩⟩;have := itr_root hl hI.par g1.zr g1.par hx ha;omega
def kpB (x : List Int) : List (List Int) -> Bool
 | [] => true
 | [y0, y1, y2, _] :: rs => decide (x.getD y1.toNat 0 - x.getD y0.toNat 0 <= y2) && kpB x rs
 | _ :: _ => false
theorem kp_step {x : List Int} {ls : List (List Int)} {k : Nat} {y0 y1 y2 y3 : Int} (h : ls[k]? = some [y0, y1, y2, y3]) : kpB x (ls.drop k) = (decide (x.getD y1.toNat 0 - x.getD y0.toNat 0 <= y2) && kpB x (ls.drop (k + 1))) := by
 obtain ⟨hk, e⟩ := List.getElem?_eq_some_iff.1 h;rw [List.drop_eq_getElem_cons hk, e]; rfl
theorem kp_end {x : List Int} {ls : List (List Int)} {k : Nat} (h : kpB x ls = kpB x (ls.drop k)) (hk : ls.length <= k) : kpB x ls = true := by
 rw [h, List.drop_eq_nil_of_le hk]; rfl
theorem kp_bad {x : List Int} {ls : List (List Int)} {k u0 u1 : Nat} {y2 y3 : Int} (hx : ls[k]? = some [(u0 : Int), (u1 : Int), y2, y3]) (h : kpB x ls = kpB x (ls.drop k)) (hb : ¬ x.getD u1 0 - x.getD u0 0 <= y2) : kpB x ls = false := by
 rw [h, kp_step hx, Int.toNat_natCast, Int.toNat_natCast, decide_eq_false hb]; rfl
theorem kp_good {x : List Int} {ls : List (List Int)} {k u0 u1 : Nat} {y2 y3 : Int} (hx : ls[k]? = some [(u0 : Int), (u1 : Int), y2, y3]) (h : kpB x ls = kpB x (ls.drop k)) (hb : x.getD u1 0 - x.getD u0 0 <= y2) : kpB x ls = kpB x (ls.drop (k + 1)) := by
 rw [h, kp_step hx, Int.toNat_natCast, Int.toNat_natCast, decide_eq_true hb]; rfl
def inB (lo hi : Int) (l : List Int) : Bool := l.all fun x => decide (lo <= x /\ x <= hi)
theorem in_step {lo hi : Int} {l : List Int} {k : Nat} (hk : k < l.length) : inB lo hi (l.drop k) = (decide (lo <= l.getD k 0 /\ l.getD k 0 <= hi) && inB lo hi (l.drop (k + 1))) := by
 rw [List.drop_eq_getElem_cons hk, List.getD_eq_getElem?_getD, List.getElem?_eq_getElem hk]; rfl
theorem in_bad {lo hi : Int} {l : List Int} {k : Nat} (hk : k < l.length) (hi' : inB lo hi l = inB lo hi (l.drop k)) (h : ¬ (lo <= l.getD k 0 /\ l.getD k 0 <= hi)) : inB lo hi l = false := by
 rw [hi', in_step hk, decide_eq_false h]; rfl
theorem in_good {lo hi : Int} {l : List Int} {k : Nat} (hk : k < l.length) (hi' : inB lo hi l = inB lo hi (l.drop k)) (h : lo <= l.getD k 0 /\ l.getD k 0 <= hi) : inB lo hi l = inB lo hi (l.drop (k + 1)) := by
 rw [hi', in_step hk, decide_eq_true h]; rfl
theorem in_end {lo hi : Int} {l : List Int} {k : Nat} (hi' : inB lo hi l = inB lo hi (l.drop k)) (hk : l.length <= k) : inB lo hi l = true := by
 rw [hi', List.drop_eq_nil_of_le hk]; rfl
def ptB (m : Int) (ls : List (List Int)) (x : List Int) : Bool := decide ((x.length : Int) = m + 1 /\ x.getD 0 0 = 0) && inB (-1000000000) 1000000000 x && kpB x ls
theorem pt_no1 {m : Int} {ls : List (List Int)} {x : List Int} (h : ¬ ((x.length : Int) = m + 1 /\ x.getD 0 0 = 0)) : ptB m ls x = false := by unfold ptB; rw [decide_eq_false h]; rfl
theorem pt_no2 {m : Int} {ls : List (List Int)} {x : List Int} (h : inB (-1000000000) 1000000000 x = false) : ptB m ls x = false := by unfold ptB; rw [h]; simp
theorem pt_no3 {m : Int} {ls : List (List Int)} {x : List Int} (h : kpB x ls = false) : ptB m ls x = false := by unfold ptB; rw [h]; simp
theorem pt_yes {m : Int} {ls : List (List Int)} {x : List Int} (h : (x.length : Int) = m + 1 /\ x.getD 0 0 = 0) (h2 : inB (-1000000000) 1000000000 x = true) (h3 : kpB x ls = true) : ptB m ls x = true := by unfold ptB; rw [decide_eq_true h, h2, h3]; rfl
theorem in_all {lo hi : Int} {l : List Int} (h : inB lo hi l = true) {k : Nat} (hk : k < l.length) : lo <= l.getD k 0 /\ l.getD k 0 <= hi := by
 have h1 := List.all_eq_true.1 h l[k] (List.getElem_mem hk);have e : l.getD k 0 = l[k] := by rw [List.getD_eq_getElem?_getD, List.getElem?_eq_getElem hk]; rfl
 rw [e];simpa using h1
section
variable {X : FuncId -> List Value -> St -> (Value -> St -> Bool) -> Bool}
theorem keeps_s (n : Nat) (m : Int) (al : Option Addr) (cl : Nat) (ls : List (List Int)) (ax : Option Addr) (cx : Nat) (x : List Int) (s : St) (hs : Wf s) (hn : 844424930131968 <= n) (hL : RowsE s 4 al ls) (hX : IntsE s ax x) (hsys : sysE m ls = 0) : Spec Tryz.prog (tabK tabw) X (n + 900) 48 [.agg ⟨[.int .i64 m, .slice al ls.length cl]⟩, .slice ax x.length cx] s (fun v A => v = .bool (ptB m ls x) /\ A = []) := by
 refine enter bw48_at rfl hs ?_;unfold bw48;have hlen := hL.len;have hlenX := hX.len;obtain ⟨hm0, hM, h400, hlm⟩ := sysE_ok hsys;refine rS (kO J (a_box J J J (fun b1 => (kM J J (Q0 (rQ (rS (kM J J (kO J (a_lenx J hX.spot (kO J (U2 J (kO J (U1 J .here rfl (kO J (Q4 J J (by omega) (kO J (Z4 J J (fun h2 => ?_) (fun h2 => ?_)))))))))))))))))))
 ·refine kM J J (V0 J J (V0 J J (V0 J J (V0 J J (kO J (Q3 J J J (Q0 (Y0 J (rS (kM J J (Q0 (Z3 (V3 (end1 J ⟨congrArg Value.bool ?_, rfl⟩))))))))))))))
  first
   | (rw [pt_no1 (by omega)]; done)
   | (rw [pt_no2 (in_bad (by omega) hi2 (by omega))]; done)
   | (rw [pt_no3 (kp_bad hx hkp (by omega))]; done)
   | (rw [pt_yes (by omega) hin (kp_end hkp (by omega))]; done)
 ·refine kM J J (kG J J (Y3 J (kG J J (Q8 (j := 0) hX rfl rfl (by omega) (by first | rfl | omega) (by omega) (fun _ _ a3 => (kG J J (W7 J (hX.at a3 (by omega)) (kG J J (Z4 J J (fun h4 => ?_) (fun h4 => ?_))))))))))
  ·refine kO J (Q2 J J J (Q0 (Y0 J (rS (kM J J (Q0 (Z3 (V3 (end1 J ⟨congrArg Value.bool ?_, rfl⟩)))))))))
   first
    | (rw [pt_no1 (by omega)]; done)
    | (rw [pt_no2 (in_bad (by omega) hi2 (by omega))]; done)
    | (rw [pt_no3 (kp_bad hx hkp (by omega))]; done)
    | (rw [pt_yes (by omega) hin (kp_end hkp (by omega))]; done)
  ·refine kO J (Q2 J J J (Q0 (U0 J (W1 (W0 (rQ (rS (kM J J (kO J (a_lenx J hX.spot (kM J J (Q0 (Z1 (Z5 (fun j e A => ∃ (k : Nat), e = [(1, .slice ax x.length cx), (2, .pointer (some ⟨b1, 0, none⟩)), (21, .slice ax x.length cx), (22, .int .i64 (x.length : Int)), (23, .int .i64 (k : Int))] /\ A = (.row b1 24 false ([.int .i64 m, .slice al ls.length cl]) :: []) /\ j = x.length - k /\ k <= x.length /\ inB (-1000000000) 1000000000 x = inB (-1000000000) 1000000000 (x.drop k)) 200 281474976710656 281474976710656 ?_ (j := _) (env2 := _) (A2 := _) ?_ ?_ ?_ ?_ ⟨0, rfl, rfl, rfl, Nat.zero_le _, rfl⟩))))))))))))))
   rotate_left
   ·omega
   ·omega
   ·exact (lc 1 J (lc 2 J (lc 21 J (lc 22 J (lc 23 J Less.nil)))))
   ·exact (.q .slnil)
   rintro n hn j _ _ ⟨k, rfl, rfl, rfl, hk, hi2⟩;refine rS (kO J (Q6 J J (fun h5 => ?_) (fun h5 => ?_)))
   ·refine Q0 (rQ (Y0 J (W1 (W0 (rQ (Z1 (rS (kO J (Q8 (j := k) hX rfl rfl (by omega) (by first | rfl | omega) (by omega) (fun _ _ a6 => (kO J (W7 J (hX.at a6 (by omega)) (kM J J (Q0 (rS (kM J J (kO J (a_callB J J (fun s1 h1 => rwithin_s _ _ _ _ s1 h1.wf) (fun h7 => ?_) (fun h7 => ?_)))))))))))))))))))
    ·refine kO J (U7 J (Q0 (U0 J (W1 (V1 (W0 (rI (kO J (Q4 J J (by omega) (kM J J (Q0 (W0 ?_))))))))))))
     exact ⟨rfl, _, _, _, (show x.length - (k + 1) < x.length - k by omega), (lc 1 J (lc 2 J (lc 21 J (lc 22 J (lc 23 J Less.nil))))), (.q .slnil), ⟨k + 1, rfl, rfl, rfl, by omega, in_good (by omega) hi2 (by omega)⟩⟩
    ·refine kO J (U7 J (Q0 (Y0 J (rS (kM J J (Q0 (Z3 (Y7 (V3 (V3 (Y7 (V3 (end1 J ⟨congrArg Value.bool ?_, rfl⟩)))))))))))))
     first
      | (rw [pt_no1 (by omega)]; done)
      | (rw [pt_no2 (in_bad (by omega) hi2 (by omega))]; done)
      | (rw [pt_no3 (kp_bad hx hkp (by omega))]; done)
      | (rw [pt_yes (by omega) hin (kp_end hkp (by omega))]; done)
   ·have hin := in_end hi2 (by omega)
    refine Q0 (rQ (U0 J (W5 (W3 (W3 (U3 (W0 (rQ (rS (kO J (U2 J (kO J (U1 J .here rfl (kO J (a_lenx J (by first | exact hL.spot | exact hX.spot) (kM J J (Q0 (Z1 (Z5 (fun j e A => ∃ (k : Nat), e = [(1, .slice ax x.length cx), (32, .slice al ls.length cl), (33, .int .i64 (ls.length : Int)), (34, .int .i64 (k : Int))] /\ A = (.row b1 24 false ([.int .i64 m, .slice al ls.length cl]) :: []) /\ j = ls.length - k /\ k <= ls.length /\ kpB x ls = kpB x (ls.drop k)) 300 0 281474976710656 ?_ (j := _) (env2 := _) (A2 := _) ?_ ?_ ?_ ?_ ⟨0, rfl, rfl, rfl, Nat.zero_le _, rfl⟩)))))))))))))))))))
    rotate_left
    ·omega
    ·omega
    ·exact (lc 1 J (lc 32 J (lc 33 J (lc 34 J Less.nil))))
    ·exact (.q .slnil)
    rintro n hn j _ _ ⟨k, rfl, rfl, rfl, hk, hkp⟩;refine rS (kO J (Q6 J J (fun h8 => ?_) (fun h8 => ?_)))
    ·obtain ⟨q4, o4, y0, y1, y2, y3, ahL, hx, hat, i0, i1, i2, i3⟩ := hL.row4 (k := k) (by omega)
     have hat2 := hat;obtain ⟨d0, d1, d2, d3, _⟩ := hat2;have := i0.lo; have := i0.hi;have := i1.lo; have := i1.hi;have := i2.lo; have := i2.hi;have := i3.lo; have := i3.hi;have hc4 := lmB_at hlm hx;obtain ⟨u0, rfl⟩ : ∃ q : Nat, y0 = (q : Int) := ⟨y0.toNat, by omega⟩;obtain ⟨u1, rfl⟩ : ∃ q : Nat, y1 = (q : Int) := ⟨y1.toNat, by omega⟩;have hb0 := in_all hin (k := u0) (by omega);have hb1 := in_all hin (k := u1) (by omega);refine Q0 (rQ (Y0 J (W1 (W0 (rQ (Z1 (rS (kO J (a_iaA (j := k) ahL rfl rfl (by first | rfl | omega) (by first | decide | omega) (kO J (a_ldar J (by decide) (by assumption) J (kO J (a_new J J (fun b9 => (kZ J (Q7 J J .here rfl rfl rfl rfl (Q0 (rS (kM J J (kO J (U2 J (kO J (U1 J .here rfl (kO J (Q8 (j := u1) hX rfl rfl (by omega) (by first | rfl | omega) (by omega) (fun _ _ a10 => (kO J (W7 J (hX.at a10 (by omega)) (kM J J (kO J (U2 J (kO J (U1 J .here rfl (kO J (Q8 (j := u0) hX rfl rfl (by omega) (by first | rfl | omega) (by omega) (fun _ _ a11 => (kO J (W7 J (hX.at a11 (by omega)) ?_))))))))))))))))))))))))))))))))))))));refine kO J (a_sub J J (by omega) (kO J (U2 J (kO J (U1 J .here rfl (kO J (a_gtr J J (fun h12 => ?_) (fun h12 => ?_))))))))
     ·refine Q0 (Y0 J (rS (kM J J (Q0 (Z3 (Y7 (V3 (V3 (Y7 (V3 (end1 J ⟨congrArg Value.bool ?_, rfl⟩)))))))))))
      first
       | (rw [pt_no1 (by omega)]; done)
       | (rw [pt_no2 (in_bad (by omega) hi2 (by omega))]; done)
       | (rw [pt_no3 (kp_bad hx hkp (by omega))]; done)
       | (rw [pt_yes (by omega) hin (kp_end hkp (by omega))]; done)
     ·refine Q0 (U0 J (W1 (V1 (W0 (rI (kO J (Q4 J J (by omega) (kM J J (Q0 (W0 ?_))))))))))
      exact ⟨rfl, _, _, _, (show ls.length - (k + 1) < ls.length - k by omega), (lc 1 J (lc 32 J (lc 33 J (lc 34 J Less.nil)))), (.cons _ (.q .slnil)), ⟨k + 1, rfl, rfl, rfl, by omega, kp_good hx hkp (by omega)⟩⟩
    ·refine Q0 (rQ (U0 J (W5 (W3 (W3 (U3 (W0 (rS (kM J J (Q0 (Z3 (end1 J ⟨congrArg Value.bool ?_, rfl⟩))))))))))))
     first
      | (rw [pt_no1 (by omega)]; done)
      | (rw [pt_no2 (in_bad (by omega) hi2 (by omega))]; done)
      | (rw [pt_no3 (kp_bad hx hkp (by omega))]; done)
      | (rw [pt_yes (by omega) hin (kp_end hkp (by omega))]; done)
end
inductive Wk (ls : List (List Int)) : Nat -> Nat -> Int -> Prop where
 | nil {f : Nat} : Wk ls f f 0
 | step {f i : Nat} {w : Int} (hi : i < ls.length) (h : Wk ls f (la ls i) w) : Wk ls f (lb ls i) (w + lw ls i)
theorem Wk.pot {ls : List (List Int)} {y : Nat -> Int} (hy : ∀ i, i < ls.length -> y (lb ls i) <= y (la ls i) + lw ls i) {f a : Nat} {w : Int} (h : Wk ls f a w) : y a <= y f + w := by
 induction h with
 | nil => omega
 | step hi _ ih => have := hy _ hi; omega
def fcn (x : Nat -> Int) : Nat -> Int
 | 0 => 0
 | k + 1 => fcn x k + (if x k = 1000000000 then 0 else 1)
theorem cnt_bd {x : Nat -> Int} : ∀ {N : Nat}, 0 <= fcn x N /\ fcn x N <= N
 | 0 => ⟨Int.le_refl _, Int.le_refl _⟩
 | N + 1 => by
  have := cnt_bd (x := x) (N := N);show 0 <= fcn x N + (if x N = 1000000000 then 0 else 1) /\ fcn x N + (if x N = 1000000000 then 0 else 1) <= ((N + 1 : Nat) : Int);split <;> omega
theorem cnt_far {x : Nat -> Int} {b : Nat} {z : Int} : ∀ {N : Nat}, N <= b -> fcn (Z2 x b z) N = fcn x N
 | 0, _ => rfl
 | N + 1, h => by
  show fcn (Z2 x b z) N + (if Z2 x b z N = 1000000000 then 0 else 1) = fcn x N + (if x N = 1000000000 then 0 else 1);rw [cnt_far (N := N) (by omega), Q1 (show N ≠ b by omega)]
theorem cnt_upd {x : Nat -> Int} {b : Nat} {z : Int} (hz : ¬ z = 1000000000) : ∀ {N : Nat}, b < N -> fcn (Z2 x b z) N = fcn x N + (if x b = 1000000000 then 1 else 0)
 | N + 1, h => by
  show fcn (Z2 x b z) N + (if Z2 x b z N = 1000000000 then 0 else 1) = fcn x N + (if x N = 1000000000 then 0 else 1) + _;by_cases q : b = N
  ·subst q
   rw [cnt_far (Nat.le_refl _), V2, if_neg hz];split <;> omega
  ·rw [cnt_upd hz (N := N) (by omega), Q1 (show N ≠ b by omega)]; omega
def tot (x : Nat -> Int) : Nat -> Int
 | 0 => 0
 | k + 1 => tot x k + x k
theorem tot_far {x : Nat -> Int} {b : Nat} {z : Int} : ∀ {N : Nat}, N <= b -> tot (Z2 x b z) N = tot x N
 | 0, _ => rfl
 | N + 1, h => by
  show tot (Z2 x b z) N + Z2 x b z N = tot x N + x N;rw [tot_far (N := N) (by omega), Q1 (show N ≠ b by omega)]
theorem tot_upd {x : Nat -> Int} {b : Nat} {z : Int} : ∀ {N : Nat}, b < N -> tot (Z2 x b z) N = tot x N + (z - x b)
 | N + 1, h => by
  show tot (Z2 x b z) N + Z2 x b z N = tot x N + x N + _;by_cases q : b = N
  ·subst q
   rw [tot_far (Nat.le_refl _), V2]; omega
  ·rw [tot_upd (N := N) (by omega), Q1 (show N ≠ b by omega)]; omega
theorem tot_bd {x : Nat -> Int} {lo hi : Int} : ∀ {N : Nat}, (∀ a, a < N -> lo <= x a /\ x a <= hi) -> lo * N <= tot x N /\ tot x N <= hi * N
 | 0, _ => ⟨by show lo * 0 <= 0; omega, by show 0 <= hi * 0; omega⟩
 | N + 1, h => by
  have h1 := tot_bd (N := N) (fun a ha => h a (by omega));have h2 := h N (by omega);show lo * ((N + 1 : Nat) : Int) <= tot x N + x N /\ tot x N + x N <= hi * ((N + 1 : Nat) : Int);rw [Int.natCast_add, Int.mul_add, Int.mul_add];omega
structure Dv (ls : List (List Int)) (N f : Nat) (s : Fs) : Prop where
 way : ∀ a, a < N -> ¬ s.x a = 1000000000 -> Wk ls f a (s.x a)
 up : ∀ a, a < N -> ¬ s.x a = 1000000000 -> s.x a <= 20000 * (fcn s.x N - 1)
 own : s.x f <= 0
 par : ∀ a, a < N -> (s.c a).2.1 < N
 last : s.l = -1 ∨ ∃ u : Nat, u < N /\ s.l = (u : Int)
theorem Dv.hi {ls : List (List Int)} {N f : Nat} {s : Fs} (h : Dv ls N f s) (hN : N <= 65) {a : Nat} (ha : a < N) : s.x a = 1000000000 ∨ s.x a <= 1280000 := by
 by_cases q : s.x a = 1000000000
 ·exact .inl q
 ·have := h.up a ha q
  have := (cnt_bd (x := s.x) (N := N)).2;exact .inr (by omega)
theorem Dv.lo {ls : List (List Int)} {M f : Nat} {s : Fs} {y : Nat -> Int} (hy : ∀ i, i < ls.length -> y (lb ls i) <= y (la ls i) + lw ls i) (hb : ∀ a, a < M + 1 -> -1300000 <= y a /\ y a <= 0) (hf : f < M + 1) (h : Dv ls (M + 1) f s) {a : Nat} (ha : a < M + 1) : -1300000 <= s.x a := by
 by_cases q : s.x a = 1000000000
 ·rw [q]; decide
 ·have h1 := (h.way a ha q).pot hy
  have h2 := hb a ha;have h3 := hb f hf;omega
theorem Dv.rlx {ls : List (List Int)} {M f v i : Nat} {s : Fs} (hl : lmB (M : Int) ls = true) (hM : M <= 64) (hi : i < ls.length) (hn : nam (ls.getD i []) v) (hv : v < M + 1) (hF : ¬ s.x v = 1000000000) (h : Dv ls (M + 1) f s) : Dv ls (M + 1) f (rlx ls s v i) /\ ¬ (Ev.rlx ls s v i).x v = 1000000000 /\ (Ev.rlx ls s v i = s ∨ tot (Ev.rlx ls s v i).x (M + 1) < tot s.x (M + 1)) := by
 have hL := lim_of hl hi;obtain ⟨u0, u1, y2, y3, e, hc⟩ := lm_row hl hi;have hw : -20000 <= lw ls i /\ lw ls i <= 20000 := by
  have e3 : ls.getD i [] = [(u0 : Int), (u1 : Int), y2, y3] := by rw [List.getD_eq_getElem?_getD, e]; rfl
  have e2 : lw ls i = y2 := by unfold lw; rw [e3]; rfl
  omega
 rw [rlx_eq hL];by_cases c1 : lb ls i = v
 ·rw [if_pos c1]; exact ⟨h, hF, .inl rfl⟩
 ·rw [if_neg c1]
  by_cases c2 : s.x v + lw ls i < s.x (lb ls i)
  ·rw [if_pos c2]
   have hav : la ls i = v := by
    rcases hn with hn | hn
    ·rw [hL.ea] at hn; omega
    ·rw [hL.eb] at hn; omega
   have hb := hL.hb;have hvu := (h.hi (by omega) hv).resolve_left hF;have hz : ¬ s.x v + lw ls i = 1000000000 := by omega
   have hcn := cnt_upd (x := s.x) hz hb;have hup := h.up v hv hF;refine ⟨⟨fun a ha hfa => ?_, fun a ha hfa => ?_, ?_, fun a ha => ?_, .inr ⟨lb ls i, hb, rfl⟩⟩, ?_, .inr ?_⟩
   ·show Wk ls f a (Z2 s.x (lb ls i) (s.x v + lw ls i) a)
    by_cases q : a = lb ls i
    ·subst q
     rw [V2];have := h.way v hv hF;rw [<- hav] at this ⊢;exact .step hi this
    ·have hfa' : ¬ Z2 s.x (lb ls i) (s.x v + lw ls i) a = 1000000000 := hfa
     rw [Q1 q] at hfa' ⊢;exact h.way a ha hfa'
   ·show Z2 s.x (lb ls i) (s.x v + lw ls i) a <= 20000 * (fcn (Z2 s.x (lb ls i) (s.x v + lw ls i)) (M + 1) - 1)
    rw [hcn];by_cases q : a = lb ls i
    ·subst q
     rw [V2];by_cases q2 : s.x (lb ls i) = 1000000000
     ·rw [if_pos q2]; omega
     ·rw [if_neg q2]
      have := h.up (lb ls i) hb q2;omega
    ·have hfa' : ¬ Z2 s.x (lb ls i) (s.x v + lw ls i) a = 1000000000 := hfa
     rw [Q1 q] at hfa' ⊢;have := h.up a ha hfa';split <;> omega
   ·show Z2 s.x (lb ls i) (s.x v + lw ls i) f <= 0
    have := h.own;by_cases q : f = lb ls i
    ·rw [q, V2]; rw [q] at this; omega
    ·rw [Q1 q]; exact this
   ·show (Z2 s.c (lb ls i) (i, v, lb ls i, lw ls i) a).2.1 < M + 1
    by_cases q : a = lb ls i
    ·rw [q, V2]; exact hv
    ·rw [Q1 q]; exact h.par a ha
   ·show ¬ Z2 s.x (lb ls i) (s.x v + lw ls i) v = 1000000000
    rw [Q1 (fun q => c1 q.symm)]; exact hF
   ·show tot (Z2 s.x (lb ls i) (s.x v + lw ls i)) (M + 1) < _
    rw [tot_upd hb]; omega
  ·rw [if_neg c2]; exact ⟨h, hF, .inl rfl⟩
theorem Dv.rws {ls : List (List Int)} {M f v : Nat} {s : Fs} (hl : lmB (M : Int) ls = true) (hM : M <= 64) (hv : v < M + 1) (hF : ¬ s.x v = 1000000000) (h : Dv ls (M + 1) f s) : ∀ {q : Nat}, q <= (nl ls ls.length v).length -> Dv ls (M + 1) f (rwS ls s v q) /\ ¬ (rwS ls s v q).x v = 1000000000 /\ (rwS ls s v q = s ∨ tot (rwS ls s v q).x (M + 1) < tot s.x (M + 1))
 | 0, _ => ⟨h, hF, .inl rfl⟩
 | q + 1, hq => by
  obtain ⟨h1, h2, h3⟩ := Dv.rws hl hM hv hF h (q := q) (by omega);obtain ⟨i, hi, hil, hn⟩ := nl_mem (ls := ls) (v := v) (k := ls.length) (q := q) (by omega);have e : rwS ls s v (q + 1) = Ev.rlx ls (rwS ls s v q) v i := by
   show Ev.rlx ls (rwS ls s v q) v ((nl ls ls.length v).getD q 0).toNat = _;rw [hi, Int.toNat_natCast]
  rw [e];obtain ⟨k1, k2, k3⟩ := Dv.rlx hl hM hil hn hv h2 h1;refine ⟨k1, k2, ?_⟩;rcases k3 with k3 | k3
  ·rw [k3]; exact h3
  ·rcases h3 with h3 | h3
   ·rw [h3] at k3 ⊢; exact .inr k3
   ·exact .inr (by omega)
theorem Dv.lws {ls : List (List Int)} {M f : Nat} {s : Fs} (hl : lmB (M : Int) ls = true) (hM : M <= 64) (h : Dv ls (M + 1) f s) : ∀ {v : Nat}, v <= M + 1 -> Dv ls (M + 1) f (lwS ls s v) /\ (lwS ls s v = s ∨ tot (lwS ls s v).x (M + 1) < tot s.x (M + 1))
 | 0, _ => ⟨h, .inl rfl⟩
 | v + 1, hv => by
  obtain ⟨h1, h2⟩ := Dv.lws hl hM h (v := v) (by omega);by_cases c : (lwS ls s v).x v = 1000000000
  ·rw [lws_free c]; exact ⟨h1, h2⟩
  ·rw [lws_go c]
   obtain ⟨k1, _, k3⟩ := Dv.rws hl hM (by omega) c h1 (Nat.le_refl _);refine ⟨k1, ?_⟩;rcases k3 with k3 | k3
   ·rw [k3]; exact h2
   ·rcases h2 with h2 | h2
    ·rw [h2] at k3 ⊢; exact .inr k3
    ·exact .inr (by omega)
theorem Dv.zero {ls : List (List Int)} {N f : Nat} (hf : f < N) : Dv ls N f ⟨Z2 (fun _ => 1000000000) f 0, fun _ => (0, 0, 0, 0), -1⟩ := by
 have hc : ∀ k, k <= N -> fcn (Z2 (fun _ => (1000000000 : Int)) f 0) k = if f < k then 1 else 0 := by
  intro k
  induction k with
  | zero => intro _; rfl
  | succ k ih =>
   intro hk;show fcn (Z2 (fun _ => (1000000000 : Int)) f 0) k + (if Z2 (fun _ => (1000000000 : Int)) f 0 k = 1000000000 then 0 else 1) = _;rw [ih (by omega)];by_cases q : k = f
   ·subst q
    rw [V2, if_neg (by omega), if_neg (by decide), if_pos (by omega)]; rfl
   ·rw [Q1 q, if_pos rfl]
    by_cases q2 : f < k
    ·rw [if_pos q2, if_pos (by omega)]; rfl
    ·rw [if_neg q2, if_neg (by omega)]; rfl
 have hx : ∀ a, ¬ Z2 (fun _ => (1000000000 : Int)) f 0 a = 1000000000 -> a = f := fun a h => by
  by_cases q : a = f
  ·exact q
  ·rw [Q1 q] at h; exact absurd rfl h
 refine ⟨fun a _ h => ?_, fun a _ h => ?_, ?_, fun a ha => by show 0 < N; omega, .inl rfl⟩
 ·have := hx a h
  subst this;show Wk ls a a (Z2 (fun _ => (1000000000 : Int)) a 0 a);rw [V2]; exact .nil
 ·have := hx a h
  subst this;show Z2 (fun _ => (1000000000 : Int)) a 0 a <= 20000 * (fcn (Z2 (fun _ => (1000000000 : Int)) a 0) N - 1);rw [V2, hc N (Nat.le_refl _), if_pos hf]; decide
 ·show Z2 (fun _ => (1000000000 : Int)) f 0 f <= 0
  rw [V2]; decide
section
variable {X : FuncId -> List Value -> St -> (Value -> St -> Bool) -> Bool}
end
structure Dd (ls : List (List Int)) (N f : Nat) (x : Nat -> Int) : Prop where
 own : x f = 0
 way : ∀ a, a < N -> ¬ x a = 1000000000 -> Wk ls f a (x a)
 hi : ∀ a, a < N -> x a = 1000000000 ∨ x a <= 1280000
 fix : ∀ i, i < ls.length -> ¬ x (la ls i) = 1000000000 -> ¬ x (lb ls i) = 1000000000 /\ x (lb ls i) <= x (la ls i) + lw ls i
theorem dd_of {ls : List (List Int)} {M f : Nat} {s : Fs} {y : Nat -> Int} (hl : lmB (M : Int) ls = true) (hM : M <= 64) (hf : f < M + 1) (hy : ∀ i, i < ls.length -> y (lb ls i) <= y (la ls i) + lw ls i) (h : Dv ls (M + 1) f s) (he : (lwS ls (st0 s) (M + 1)).l = -1) : lwS ls (st0 s) (M + 1) = st0 s /\ Dd ls (M + 1) f s.x := by
 obtain ⟨e, hc⟩ := lws_l (s := st0 s) hl he;have hhi := fun a ha => h.hi (a := a) (by omega) ha
 have hff : ¬ s.x f = 1000000000 := by have := h.own; omega
 refine ⟨e, ⟨?_, h.way, hhi, fun i hi hfi => ?_⟩⟩
 ·have h1 := (h.way f hf hff).pot hy
  have h2 := h.own;omega
 ·have hL := lim_of hl hi
  have h1 : s.x (lb ls i) <= s.x (la ls i) + lw ls i := hc (la ls i) hL.ha hfi i hi rfl;have h2 := (hhi (la ls i) hL.ha).resolve_left hfi;obtain ⟨u0, u1, y2, y3, e3, hc3⟩ := lm_row hl hi;have e4 : ls.getD i [] = [(u0 : Int), (u1 : Int), y2, y3] := by rw [List.getD_eq_getElem?_getD, e3]; rfl
  have e5 : lw ls i = y2 := by unfold lw; rw [e4]; rfl
  exact ⟨by omega, h1⟩
theorem Dd.walk {ls : List (List Int)} {N f : Nat} {x : Nat -> Int} (h : Dd ls N f x) {a b : Nat} {w : Int} (hw : Wk ls a b w) (ha : ¬ x a = 1000000000) : ¬ x b = 1000000000 /\ x b <= x a + w := by
 induction hw with
 | nil => exact ⟨ha, by omega⟩
 | step hi _ ih =>
  obtain ⟨h1, h2⟩ := ih;obtain ⟨h3, h4⟩ := h.fix _ hi h1;exact ⟨h3, by omega⟩
def DT (ls : List (List Int)) (N : Nat) (D : Nat -> Nat -> Int) : Prop := ∀ f, f < N -> Dd ls N f (D f)
section
variable {X : FuncId -> List Value -> St -> (Value -> St -> Bool) -> Bool}
end
set_option maxRecDepth 100000
def rr (z : Int) (m k : Nat) : List Int := List.replicate k z ++ List.replicate (m - k) 0
section
variable {X : FuncId -> List Value -> St -> (Value -> St -> Bool) -> Bool}
end
theorem Dv.st0 {ls : List (List Int)} {N f : Nat} {g : Fs} (h : Dv ls N f g) : Dv ls N f (st0 g) := ⟨h.way, h.up, h.own, h.par, .inl rfl⟩
theorem Dv.tot_lo {ls : List (List Int)} {M f : Nat} {g : Fs} {y : Nat -> Int} (h : Dv ls (M + 1) f g) (hy : ∀ i, i < ls.length -> y (lb ls i) <= y (la ls i) + lw ls i) (hb : ∀ a, a < M + 1 -> -1300000 <= y a /\ y a <= 0) (hf : f < M + 1) : -1300000 * ((M + 1 : Nat) : Int) <= tot g.x (M + 1) := by
 have key : ∀ k, k <= M + 1 -> -1300000 * (k : Int) <= tot g.x k := by
  intro k
  induction k with
  | zero => intro _; show _ <= (0 : Int); omega
  | succ k ih =>
   intro hk;have h1 := ih (by omega);have h2 := h.lo hy hb hf (a := k) (by omega);show _ <= tot g.x k + g.x k;omega
 exact key (M + 1) (Nat.le_refl _)
section
variable {X : FuncId -> List Value -> St -> (Value -> St -> Bool) -> Bool}
end
theorem DT.lo {ls : List (List Int)} {M : Nat} {D : Nat -> Nat -> Int} {y : Nat -> Int} (h : DT ls (M + 1) D) (hy : ∀ i, i < ls.length -> y (lb ls i) <= y (la ls i) + lw ls i) (hb : ∀ a, a < M + 1 -> -1300000 <= y a /\ y a <= 0) {f a : Nat} (hf : f < M + 1) (ha : a < M + 1) : -1300000 <= D f a := by
 by_cases q : D f a = 1000000000
 ·rw [q]; decide
 ·have h1 := ((h f hf).way a ha q).pot hy
  have h2 := hb a ha;have h3 := hb f hf;omega
structure Sm (D : Nat -> Nat -> Int) (N : Nat) : Prop where
 lo : ∀ a b, a < N -> b < N -> -1300000 <= D a b
 hi : ∀ a b, a < N -> b < N -> D a b = 1000000000 ∨ D a b <= 1280000
theorem DT.sm {ls : List (List Int)} {M : Nat} {D : Nat -> Nat -> Int} {y : Nat -> Int} (h : DT ls (M + 1) D) (hy : ∀ i, i < ls.length -> y (lb ls i) <= y (la ls i) + lw ls i) (hb : ∀ a, a < M + 1 -> -1300000 <= y a /\ y a <= 0) : Sm D (M + 1) := ⟨fun a b ha hb' => h.lo hy hb ha hb', fun a b ha hb' => (h a ha).hi b hb'⟩
section
variable {X : FuncId -> List Value -> St -> (Value -> St -> Bool) -> Bool}
end
theorem U6 {f g : Nat -> Int} : ∀ {N : Nat}, (∀ i, i < N -> f i = g i) -> tot f N = tot g N
 | 0, _ => rfl
 | N + 1, h => by show tot f N + f N = tot g N + g N; rw [U6 (N := N) (fun i hi => h i (by omega)), h N (by omega)]
theorem tot_le {f g : Nat -> Int} : ∀ {N : Nat}, (∀ i, i < N -> f i <= g i) -> tot f N <= tot g N
 | 0, _ => Int.le_refl _
 | N + 1, h => by
  have h1 := tot_le (N := N) (fun i hi => h i (by omega));have h2 := h N (by omega);show tot f N + f N <= tot g N + g N;omega
theorem tot_add {f g : Nat -> Int} : ∀ {N : Nat}, tot (fun i => f i + g i) N = tot f N + tot g N
 | 0 => rfl
 | N + 1 => by
  have h1 := tot_add (f := f) (g := g) (N := N);show tot (fun i => f i + g i) N + (f N + g N) = tot f N + f N + (tot g N + g N);omega
theorem tot_sub {f g : Nat -> Int} : ∀ {N : Nat}, tot (fun i => f i - g i) N = tot f N - tot g N
 | 0 => rfl
 | N + 1 => by
  have h1 := tot_sub (f := f) (g := g) (N := N);show tot (fun i => f i - g i) N + (f N - g N) = tot f N + f N - (tot g N + g N);omega
theorem tot_nil {f : Nat -> Int} : ∀ {N : Nat}, (∀ i, i < N -> f i = 0) -> tot f N = 0
 | 0, _ => rfl
 | N + 1, h => by show tot f N + f N = 0; rw [tot_nil (N := N) (fun i hi => h i (by omega)), h N (by omega)]; rfl
theorem tot_nn {f : Nat -> Int} {N : Nat} (h : ∀ i, i < N -> 0 <= f i) : 0 <= tot f N := by
 have := tot_le (f := fun _ => 0) (g := f) h
 rwa [tot_nil (fun _ _ => rfl)] at this
theorem tot_one {c : Nat -> Int} {a : Nat} : ∀ {N : Nat}, a < N -> tot (fun v => if a = v then c v else 0) N = c a
 | N + 1, h => by
  show tot (fun v => if a = v then c v else 0) N + (if a = N then c N else 0) = c a;by_cases q : a = N
  ·subst q
   rw [if_pos rfl, tot_nil (fun i hi => if_neg (by omega))]; omega
  ·rw [if_neg q, tot_one (N := N) (by omega)]; omega
theorem tot_mem {f : Nat -> Int} : ∀ {N : Nat}, (∀ i, i < N -> 0 <= f i) -> ∀ i, i < N -> f i <= tot f N
 | N + 1, h, i, hi => by
  have h1 := tot_nn (f := f) (N := N) (fun i hi => h i (by omega));show f i <= tot f N + f N;by_cases q : i = N
  ·subst q; omega
  ·have := tot_mem (N := N) (fun i hi => h i (by omega)) i (by omega)
   have := h N (by omega);omega
def net (ts : List (List Int)) (t : Nat -> Int) : Nat -> Nat -> Int
 | 0, _ => 0
 | k + 1, v => net ts t k v + ((if lb ts k = v then t k else 0) - (if la ts k = v then t k else 0))
theorem dot_net {ts : List (List Int)} {t x : Nat -> Int} {N : Nat} : ∀ {k : Nat}, (∀ i, i < k -> la ts i < N /\ lb ts i < N) -> tot (fun v => x v * net ts t k v) N = tot (fun i => t i * (x (lb ts i) - x (la ts i))) k
 | 0, _ => tot_nil (fun i _ => Int.mul_zero _)
 | k + 1, h => by
  have ih := dot_net (t := t) (x := x) (k := k) (fun i hi => h i (by omega));obtain ⟨ha, hb⟩ := h k (by omega);have e : ∀ v, v < N -> x v * net ts t (k + 1) v = x v * net ts t k v + ((if lb ts k = v then x v * t k else 0) - (if la ts k = v then x v * t k else 0)) := fun v _ => by
   show x v * (net ts t k v + ((if lb ts k = v then t k else 0) - (if la ts k = v then t k else 0))) = _;rw [Int.mul_add, Int.mul_sub]
   congr 1
   congr 1
   ·split <;> simp
   ·split <;> simp
  rw [U6 e, tot_add, tot_sub, ih, tot_one (c := fun v => x v * t k) hb, tot_one (c := fun v => x v * t k) ha];show _ = tot _ k + t k * (x (lb ts k) - x (la ts k));rw [Int.mul_sub, Int.mul_comm (t k), Int.mul_comm (t k)]
theorem dual_le {ts : List (List Int)} {t x : Nat -> Int} {K : Nat} (hn : ∀ i, i < K -> 0 <= t i) (hx : ∀ i, i < K -> x (lb ts i) <= x (la ts i) + lw ts i) : tot (fun i => t i * (x (lb ts i) - x (la ts i))) K <= tot (fun i => t i * lw ts i) K :=
 tot_le (fun i hi => Int.mul_le_mul_of_nonneg_left (by have := hx i hi; omega) (hn i hi))
theorem dual_eq {ts : List (List Int)} {t x : Nat -> Int} {K : Nat} (hx : ∀ i, i < K -> ¬ t i = 0 -> x (lb ts i) = x (la ts i) + lw ts i) : tot (fun i => t i * (x (lb ts i) - x (la ts i))) K = tot (fun i => t i * lw ts i) K :=
 U6 (fun i hi => by
  by_cases q : t i = 0
  ·rw [q, Int.zero_mul, Int.zero_mul]
  ·rw [hx i hi q]; congr 1; omega)
def ind (U : Nat -> Bool) (v : Nat) : Int := if U v = true then 1 else 0
theorem cut_le {ts : List (List Int)} {t : Nat -> Int} {U : Nat -> Bool} {N K : Nat} (hN : ∀ i, i < K -> la ts i < N /\ lb ts i < N) (hn : ∀ i, i < K -> 0 <= t i) (hU : ∀ i, i < K -> U (lb ts i) = true -> U (la ts i) = true) : tot (fun v => ind U v * net ts t K v) N <= 0 := by
 rw [dot_net hN];have := tot_le (f := fun i => t i * (ind U (lb ts i) - ind U (la ts i))) (g := fun _ => 0) (N := K) (fun i hi => by
  have h1 := hn i hi;have h2 := hU i hi;show t i * (ind U (lb ts i) - ind U (la ts i)) <= 0;unfold ind;by_cases q : U (lb ts i) = true
  ·rw [if_pos q, if_pos (h2 q)]; simp
  ·rw [if_neg q]
   split
   ·rw [show t i * (0 - 1) = - t i by omega]; omega
   ·simp)
 rwa [tot_nil (fun _ _ => rfl)] at this
def Lg (M : Nat) (ts : List (List Int)) : Prop := ∀ i, i < ts.length -> la ts i < M + 1 /\ lb ts i < M + 1 /\ la ts i ≠ lb ts i /\ -20000 <= lw ts i /\ lw ts i <= 1280001 /\ ∃ y3, ts[i]? = some [((la ts i : Nat) : Int), ((lb ts i : Nat) : Int), lw ts i, y3]
theorem lw_bd' {ls : List (List Int)} {M i : Nat} (hl : lmB (M : Int) ls = true) (hi : i < ls.length) : -20000 <= lw ls i /\ lw ls i <= 20000 := by
 obtain ⟨u0, u1, y2, y3, e, hc⟩ := lm_row hl hi;have e3 : ls.getD i [] = [(u0 : Int), (u1 : Int), y2, y3] := by rw [List.getD_eq_getElem?_getD, e]; rfl
 have e2 : lw ls i = y2 := by unfold lw; rw [e3]; rfl
 omega
theorem lg_of {M : Nat} {ls : List (List Int)} (hl : lmB (M : Int) ls = true) : Lg M ls := fun i hi => by
 have hL := lim_of hl hi;obtain ⟨u0, u1, y2, y3, e, hc⟩ := lm_row hl hi;have e3 : ls.getD i [] = [(u0 : Int), (u1 : Int), y2, y3] := by rw [List.getD_eq_getElem?_getD, e]; rfl
 have e2 : lw ls i = y2 := by unfold lw; rw [e3]; rfl
 exact ⟨hL.ha, hL.hb, hL.ne, by omega, by omega, hL.row⟩
def Y1 : Nat -> List (List Int)
 | 0 => []
 | m + 1 => Y1 m ++ [[0, ((m + 1 : Nat) : Int), 1280001, 0], [((m + 1 : Nat) : Int), 0, 1280001, 0]]
theorem toll_len : ∀ {m : Nat}, (Y1 m).length = 2 * m
 | 0 => rfl
 | m + 1 => by
  show (Y1 m ++ _).length = _;rw [List.length_append, toll_len]; show 2 * m + 2 = _; omega
theorem toll_up {i : Nat} : ∀ {m : Nat}, i < m -> (Y1 m)[2 * i]? = some [0, ((i + 1 : Nat) : Int), 1280001, 0] /\ (Y1 m)[2 * i + 1]? = some [((i + 1 : Nat) : Int), 0, 1280001, 0]
 | m + 1, h => by
  show (Y1 m ++ _)[2 * i]? = _ /\ (Y1 m ++ _)[2 * i + 1]? = _;by_cases q : i = m
  ·subst q
   rw [List.getElem?_append_right (by rw [toll_len]; omega), List.getElem?_append_right (by rw [toll_len]; omega), toll_len, Nat.sub_self, show 2 * i + 1 - 2 * i = 1 by omega];exact ⟨rfl, rfl⟩
  ·rw [List.getElem?_append_left (by rw [toll_len]; omega), List.getElem?_append_left (by rw [toll_len]; omega)]
   exact toll_up (by omega)
theorem fld {ts : List (List Int)} {i a b : Nat} {w y : Int} (h : ts[i]? = some [(a : Int), (b : Int), w, y]) : la ts i = a /\ lb ts i = b /\ lw ts i = w := by
 have e : ts.getD i [] = [(a : Int), (b : Int), w, y] := by rw [List.getD_eq_getElem?_getD, h]; rfl
 refine ⟨?_, ?_, ?_⟩
 ·unfold la; rw [e]; exact Int.toNat_natCast a
 ·unfold lb; rw [e]; exact Int.toNat_natCast b
 ·unfold lw; rw [e]; rfl
theorem app_fld {ls us : List (List Int)} {i : Nat} (h : i < ls.length) : la (ls ++ us) i = la ls i /\ lb (ls ++ us) i = lb ls i /\ lw (ls ++ us) i = lw ls i := by
 have e : (ls ++ us).getD i [] = ls.getD i [] := by rw [List.getD_eq_getElem?_getD, List.getElem?_append_left h, <- List.getD_eq_getElem?_getD]
 unfold la lb lw;rw [e]; exact ⟨rfl, rfl, rfl⟩
theorem tl_up {ls : List (List Int)} {m i : Nat} (h : i < m) : (ls ++ Y1 m)[ls.length + 2 * i]? = some [((0 : Nat) : Int), ((i + 1 : Nat) : Int), 1280001, 0] /\ (ls ++ Y1 m)[ls.length + 2 * i + 1]? = some [((i + 1 : Nat) : Int), ((0 : Nat) : Int), 1280001, 0] := by
 rw [List.getElem?_append_right (by omega), List.getElem?_append_right (by omega), show ls.length + 2 * i - ls.length = 2 * i by omega, show ls.length + 2 * i + 1 - ls.length = 2 * i + 1 by omega];exact toll_up h
theorem lg_tl {M : Nat} {ls : List (List Int)} (hl : lmB (M : Int) ls = true) : Lg M (ls ++ Y1 M) := fun i hi => by
 by_cases q : i < ls.length
 ·obtain ⟨e1, e2, e3⟩ := app_fld (us := Y1 M) q
  obtain ⟨h1, h2, h3, h4, h5, y3, h6⟩ := lg_of hl i q;rw [e1, e2, e3, List.getElem?_append_left q];exact ⟨h1, h2, h3, h4, h5, y3, h6⟩
 ·rw [List.length_append, toll_len] at hi
  obtain ⟨j, hj, hd⟩ : ∃ j, j < M /\ (i = ls.length + 2 * j ∨ i = ls.length + 2 * j + 1) := ⟨(i - ls.length) / 2, by omega, by omega⟩;obtain ⟨t1, t2⟩ := tl_up (ls := ls) hj;rcases hd with rfl | rfl
  ·obtain ⟨e1, e2, e3⟩ := fld t1
   rw [e1, e2, e3];exact ⟨by omega, by omega, by omega, by omega, by omega, 0, t1⟩
  ·obtain ⟨e1, e2, e3⟩ := fld t2
   rw [e1, e2, e3];exact ⟨by omega, by omega, by omega, by omega, by omega, 0, t2⟩
structure Opt (ls : List (List Int)) (N : Nat) (w t p : Nat -> Int) : Prop where
 nn : ∀ i, i < ls.length -> 0 <= t i
 nt : ∀ v, v < N -> net ls t ls.length v = w v
 st : ∀ i, i < ls.length -> p (lb ls i) <= p (la ls i) + lw ls i
 ti : ∀ i, i < ls.length -> 0 < t i -> p (lb ls i) = p (la ls i) + lw ls i
theorem Opt.eq {ls : List (List Int)} {N : Nat} {w t p : Nat -> Int} (h : Opt ls N w t p) (hN : ∀ i, i < ls.length -> la ls i < N /\ lb ls i < N) : tot (fun v => p v * w v) N = tot (fun i => t i * lw ls i) ls.length := by
 rw [<- dual_eq (x := p) (fun i hi q => h.ti i hi (by have := h.nn i hi; omega)), <- dot_net hN];exact U6 (fun v hv => by rw [h.nt v hv])
theorem Opt.le {ls : List (List Int)} {N : Nat} {w t p x : Nat -> Int} (h : Opt ls N w t p) (hN : ∀ i, i < ls.length -> la ls i < N /\ lb ls i < N) (hx : ∀ i, i < ls.length -> x (lb ls i) <= x (la ls i) + lw ls i) : tot (fun v => x v * w v) N <= tot (fun i => t i * lw ls i) ls.length := by
 have := dual_le (t := t) h.nn hx;rw [<- dot_net hN] at this
 rwa [U6 (fun v hv => by rw [<- h.nt v hv])]
def Opn (ls : List (List Int)) (N : Nat) (w : Nat -> Int) : Prop := ∃ U : Nat -> Bool, (∀ i, i < ls.length -> U (lb ls i) = true -> U (la ls i) = true) /\ 0 < tot (fun v => ind U v * w v) N
theorem Opn.not {ls : List (List Int)} {N : Nat} {w t : Nat -> Int} (h : Opn ls N w) (hN : ∀ i, i < ls.length -> la ls i < N /\ lb ls i < N) (hn : ∀ i, i < ls.length -> 0 <= t i) (ht : ∀ v, v < N -> net ls t ls.length v = w v) : False := by
 obtain ⟨U, h1, h2⟩ := h;have h3 := cut_le hN hn h1;rw [U6 (fun v hv => by rw [ht v hv])] at h3;omega
structure Ld (ts : List (List Int)) (N : Nat) (w due t p : Nat -> Int) : Prop where
 nn : ∀ i, i < ts.length -> 0 <= t i
 nt : ∀ v, v < N -> net ts t ts.length v = w v - due v
 st : ∀ i, i < ts.length -> p (lb ts i) <= p (la ts i) + lw ts i
 ti : ∀ i, i < ts.length -> 0 < t i -> p (lb ts i) = p (la ts i) + lw ts i
theorem net_app {ls us : List (List Int)} {t : Nat -> Int} {v : Nat} : ∀ {k : Nat}, k <= ls.length -> net (ls ++ us) t k v = net ls t k v
 | 0, _ => rfl
 | k + 1, h => by
  obtain ⟨e1, e2, _⟩ := app_fld (us := us) (show k < ls.length by omega);show net (ls ++ us) t k v + _ = net ls t k v + _;rw [net_app (by omega), e1, e2]
theorem net_stop {ts : List (List Int)} {t : Nat -> Int} {v K0 : Nat} : ∀ {K : Nat}, K0 <= K -> (∀ i, K0 <= i -> i < K -> t i = 0) -> net ts t K v = net ts t K0 v
 | 0, h, _ => by rw [show K0 = 0 by omega]
 | K + 1, h, ht => by
  by_cases q : K0 = K + 1
  ·rw [q]
  ·show net ts t K v + _ = _
   rw [net_stop (K := K) (by omega) (fun i hi hk => ht i hi (by omega)), ht K (by omega) (by omega)];simp
theorem ld_opt {ls : List (List Int)} {M : Nat} {w due t p : Nat -> Int} (h : Ld (ls ++ Y1 M) (M + 1) w due t p) (hd : ∀ v, v < M + 1 -> due v = 0) (ht : ∀ i, ls.length <= i -> i < (ls ++ Y1 M).length -> t i = 0) : Opt ls (M + 1) w t p := by
 have hlen : ls.length <= (ls ++ Y1 M).length := by rw [List.length_append]; omega
 refine ⟨fun i hi => h.nn i (by omega), fun v hv => ?_, fun i hi => ?_, fun i hi hp => ?_⟩
 ·have := h.nt v hv
  rw [net_stop hlen ht, net_app (Nat.le_refl _), hd v hv] at this;omega
 ·have := h.st i (by omega)
  obtain ⟨e1, e2, e3⟩ := app_fld (us := Y1 M) hi
  rwa [e1, e2, e3] at this
 ·have := h.ti i (by omega) hp
  obtain ⟨e1, e2, e3⟩ := app_fld (us := Y1 M) hi
  rwa [e1, e2, e3] at this
theorem gap {M : Nat} {p : Nat -> Int} {a b : Nat} (hM : M <= 64) (ha : a < M + 1) (hb : b < M + 1) (h : p b = p a + 1280001) : ∃ c : Int, p a <= c /\ c + 20000 < p b /\ ∀ u, u < M + 1 -> p u <= c ∨ c + 20000 < p u := by
 refine Classical.byContradiction (fun q => ?_);have hall : ∀ j : Nat, j < 64 -> ∃ u, u < M + 1 /\ p a + 20000 * (j : Int) < p u /\ p u <= p a + 20000 * (j : Int) + 20000 := fun j hj => by
  refine Classical.byContradiction (fun r => q ⟨p a + 20000 * (j : Int), by omega, by omega, fun u hu => ?_⟩);by_cases c1 : p u <= p a + 20000 * (j : Int)
  ·exact .inl c1
  ·exact .inr (by refine Classical.byContradiction (fun c2 => r ⟨u, hu, by omega, by omega⟩))
 have hf : ∀ j : Nat, ∃ u, u < M + 1 /\ (j < 64 -> p a + 20000 * (j : Int) < p u /\ p u <= p a + 20000 * (j : Int) + 20000) := fun j => by
  by_cases hj : j < 64
  ·obtain ⟨u, h1, h2, h3⟩ := hall j hj
   exact ⟨u, h1, fun _ => ⟨h2, h3⟩⟩
  ·exact ⟨a, ha, fun r => absurd r hj⟩
 have key := fun j => (hf j).choose_spec
 obtain ⟨i, j, h1, h2, h3⟩ := pigeon 65 (fun j => if j = 64 then a else if j = 65 then b else (hf j).choose) (fun i hi => by
  show (if i = 64 then a else if i = 65 then b else (hf i).choose) < 65;have := (key i).1;split
  ·omega
  ·split <;> omega)
 have h3' : (if i = 64 then a else if i = 65 then b else (hf i).choose) = (if j = 64 then a else if j = 65 then b else (hf j).choose) := h3;by_cases i64 : i = 64
 ·rw [if_pos i64, if_neg (by omega), if_pos (by omega)] at h3'
  rw [<- h3'] at h; omega
 ·have ki := (key i).2 (by omega)
  rw [if_neg i64, if_neg (by omega)] at h3';by_cases j64 : j = 64
  ·rw [if_pos j64] at h3'; rw [h3'] at ki; omega
  ·rw [if_neg j64] at h3'
   by_cases j65 : j = 65
   ·rw [if_pos j65] at h3'; rw [h3'] at ki; omega
   ·rw [if_neg j65] at h3'
    have kj := (key j).2 (by omega);rw [<- h3'] at kj;omega
theorem ld_opn {ls : List (List Int)} {M : Nat} {w due t p : Nat -> Int} (hl : lmB (M : Int) ls = true) (hM : M <= 64) (h : Ld (ls ++ Y1 M) (M + 1) w due t p) (hd : ∀ v, v < M + 1 -> due v = 0) {i : Nat} (hi : ls.length <= i) (hi2 : i < (ls ++ Y1 M).length) (ht : 0 < t i) : Opn ls (M + 1) w := by
 have hlen : (ls ++ Y1 M).length = ls.length + 2 * M := by rw [List.length_append, toll_len]
 have htl := h.ti i hi2 ht;have hg := lg_tl hl;obtain ⟨g1, g2, _⟩ := hg i hi2;have htw : lw (ls ++ Y1 M) i = 1280001 := by
  obtain ⟨j, hj, hd⟩ : ∃ j, j < M /\ (i = ls.length + 2 * j ∨ i = ls.length + 2 * j + 1) := ⟨(i - ls.length) / 2, by omega, by omega⟩;obtain ⟨t1, t2⟩ := tl_up (ls := ls) hj;rcases hd with rfl | rfl
  ·exact (fld t1).2.2
  ·exact (fld t2).2.2
 rw [htw] at htl;obtain ⟨c, c1, c2, c3⟩ := gap hM g1 g2 htl;refine ⟨fun v => decide (c < p v), fun k hk hU => ?_, ?_⟩
 ·have hU : c < p (lb ls k) := of_decide_eq_true hU
  obtain ⟨e1, e2, e3⟩ := app_fld (us := Y1 M) hk;have h1 := h.st k (by omega);rw [e1, e2, e3] at h1;obtain ⟨k1, k2, _⟩ := lg_of hl k hk;have h2 := c3 _ k1;have h3 := c3 _ k2;have h4 := lw_bd' hl hk;exact decide_eq_true (by omega)
 ·have e : tot (fun v => ind (fun v => decide (c < p v)) v * w v) (M + 1) = tot (fun k => t k * (ind (fun v => decide (c < p v)) (lb (ls ++ Y1 M) k) - ind (fun v => decide (c < p v)) (la (ls ++ Y1 M) k))) (ls ++ Y1 M).length := by
   rw [<- dot_net (fun k hk => ⟨(hg k hk).1, (hg k hk).2.1⟩)];exact U6 (fun v hv => by rw [h.nt v hv, hd v hv]; simp)
  rw [e];have hnn : ∀ k, k < (ls ++ Y1 M).length -> 0 <= t k * (ind (fun v => decide (c < p v)) (lb (ls ++ Y1 M) k) - ind (fun v => decide (c < p v)) (la (ls ++ Y1 M) k)) := fun k hk => by
   have k0 := h.nn k hk;by_cases q : t k = 0
   ·rw [q]; simp
   ·have k1 := h.ti k hk (by omega)
    obtain ⟨k2, k3, _, k4, k5, _⟩ := hg k hk;have h2 := c3 _ k2;have h3 := c3 _ k3;unfold ind;refine Int.mul_nonneg k0 ?_;by_cases q1 : c < p (la (ls ++ Y1 M) k)
    ·have : c < p (lb (ls ++ Y1 M) k) := by omega
     rw [if_pos (decide_eq_true q1), if_pos (decide_eq_true this)]; decide
    ·have e1 : (if decide (c < p (la (ls ++ Y1 M) k)) = true then (1 : Int) else 0) = 0 := if_neg (by simpa using q1)
     rw [e1];split <;> decide
  have hmem := tot_mem hnn i hi2;have hpos : t i * (ind (fun v => decide (c < p v)) (lb (ls ++ Y1 M) i) - ind (fun v => decide (c < p v)) (la (ls ++ Y1 M) i)) = t i := by
   unfold ind;rw [if_pos (decide_eq_true (by omega)), if_neg (by simp; omega)];omega
  have hmem' : t i * (ind (fun v => decide (c < p v)) (lb (ls ++ Y1 M) i) - ind (fun v => decide (c < p v)) (la (ls ++ Y1 M) i)) <= _ := hmem;rw [hpos] at hmem';exact Int.lt_of_lt_of_le ht hmem'
section
variable {X : FuncId -> List Value -> St -> (Value -> St -> Bool) -> Bool}
end
structure Cm where
 lim : Nat
 bk : Bool
 fr : Int
 to : Nat
 ms : Int
structure Tp where
 pr : Nat -> Int
 cm : Nat -> Cm
 lf : Nat -> Bool
structure Rs (ts : List (List Int)) (t : Nat -> Int) (u : Nat) (c : Cm) : Prop where
 lt : c.lim < ts.length
 fr : c.fr = (u : Int)
 wh : (c.bk = false /\ la ts c.lim = u /\ c.to = lb ts c.lim /\ c.ms = lw ts c.lim) ∨ (c.bk = true /\ lb ts c.lim = u /\ c.to = la ts c.lim /\ c.ms = -(lw ts c.lim) /\ 0 < t c.lim)
def upT (p : Nat -> Int) (g : Tp) (v i : Nat) (bk : Bool) (to : Nat) (ms : Int) : Tp :=
 if g.pr v + ms + p v - p to < g.pr to then ⟨Z2 g.pr to (g.pr v + ms + p v - p to), Z2 g.cm to ⟨i, bk, (v : Int), to, ms⟩, g.lf⟩ else g
def rxT (ts : List (List Int)) (t p : Nat -> Int) (g : Tp) (v i : Nat) : Tp :=
 if lb ts i = v then (if t i = 0 then g else upT p g v i true (la ts i) (-(lw ts i))) else upT p g v i false (lb ts i) (lw ts i)
def rwT (ts : List (List Int)) (t p : Nat -> Int) (g : Tp) (v : Nat) : Nat -> Tp
 | 0 => g
 | q + 1 => rxT ts t p (rwT ts t p g v q) v ((nl ts ts.length v).getD q 0).toNat
def cnB (f : Nat -> Bool) : Nat -> Nat
 | 0 => 0
 | k + 1 => cnB f k + (if f k = true then 1 else 0)
theorem cnB_le {f : Nat -> Bool} : ∀ {N : Nat}, cnB f N <= N
 | 0 => Nat.le_refl _
 | N + 1 => by
  have := cnB_le (f := f) (N := N);show cnB f N + (if f N = true then 1 else 0) <= _;split <;> omega
theorem cnB_far {f : Nat -> Bool} {b : Nat} : ∀ {N : Nat}, N <= b -> cnB (Z2 f b true) N = cnB f N
 | 0, _ => rfl
 | N + 1, h => by
  show cnB (Z2 f b true) N + (if Z2 f b true N = true then 1 else 0) = cnB f N + (if f N = true then 1 else 0);rw [cnB_far (N := N) (by omega), Q1 (show N ≠ b by omega)]
theorem cnB_upd {f : Nat -> Bool} {b : Nat} (hb : f b = false) : ∀ {N : Nat}, b < N -> cnB (Z2 f b true) N = cnB f N + 1
 | N + 1, h => by
  show cnB (Z2 f b true) N + (if Z2 f b true N = true then 1 else 0) = cnB f N + (if f N = true then 1 else 0) + 1;by_cases q : b = N
  ·subst q
   rw [cnB_far (Nat.le_refl _), V2, if_pos rfl, hb, if_neg (by decide)]
  ·rw [cnB_upd hb (N := N) (by omega), Q1 (show N ≠ b by omega)]; omega
theorem cnB_lt {f : Nat -> Bool} {b N : Nat} (hb : f b = false) (h : b < N) : cnB f N < N := by
 have h1 := cnB_upd hb h;have h2 := cnB_le (f := Z2 f b true) (N := N);omega
structure Dj (ts : List (List Int)) (N : Nat) (t p : Nat -> Int) (S : Nat -> Prop) (U : Int) (g : Tp) (rk : Nat -> Nat) : Prop where
 src : ∀ v, v < N -> S v -> g.pr v = 0 /\ (g.cm v).fr = -1
 pos : ∀ v, v < N -> 0 <= g.pr v
 bd : ∀ v, v < N -> g.pr v = 1000000000 ∨ g.pr v + p v <= U + 1280001 * (cnB g.lf N : Int)
 cam : ∀ v, v < N -> ¬ g.pr v = 1000000000 -> S v ∨ ∃ u, u < N /\ g.lf u = true /\ Rs ts t u (g.cm v) /\ (g.cm v).to = v /\ g.pr v = g.pr u + (g.cm v).ms + p u - p v /\ (g.lf v = true -> rk u < rk v)
 rkc : ∀ v, v < N -> g.lf v = true -> rk v < cnB g.lf N
 fin : ∀ v, v < N -> g.lf v = true -> ¬ g.pr v = 1000000000
 ord : ∀ u v, u < N -> v < N -> g.lf u = true -> g.lf v = false -> g.pr u <= g.pr v
 rel : ∀ u, u < N -> g.lf u = true -> ∀ i, i < ts.length -> (la ts i = u -> g.pr (lb ts i) <= g.pr u + lw ts i + p u - p (lb ts i)) /\ (lb ts i = u -> 0 < t i -> g.pr (la ts i) <= g.pr u + -(lw ts i) + p u - p (la ts i))
structure Kpt (ts : List (List Int)) (N : Nat) (t p : Nat -> Int) : Prop where
 lg : ∀ i, i < ts.length -> la ts i < N /\ lb ts i < N /\ la ts i ≠ lb ts i /\ -20000 <= lw ts i /\ lw ts i <= 1280001
 nn : ∀ i, i < ts.length -> 0 <= t i
 st : ∀ i, i < ts.length -> p (lb ts i) <= p (la ts i) + lw ts i
 ti : ∀ i, i < ts.length -> 0 < t i -> p (lb ts i) = p (la ts i) + lw ts i
theorem Rs.to_lt {ts : List (List Int)} {N : Nat} {t p : Nat -> Int} {u : Nat} {c : Cm} (h : Rs ts t u c) (k : Kpt ts N t p) : c.to < N /\ c.to ≠ u /\ 0 <= c.ms + p u - p c.to /\ c.ms <= 1280001 /\ -1280001 <= c.ms := by
 obtain ⟨h1, h2, h3, h4, h5⟩ := k.lg c.lim h.lt;have h6 := k.st c.lim h.lt;have h7 := k.ti c.lim h.lt;rcases h.wh with ⟨_, w1, w2, w3⟩ | ⟨_, w1, w2, w3, w4⟩
 ·rw [w2, w3, <- w1]; exact ⟨h2, fun e => h3 e.symm, by omega, by omega, by omega⟩
 ·have := h7 w4
  rw [w2, w3, <- w1]; exact ⟨h1, h3, by omega, by omega, by omega⟩
structure Dq (ts : List (List Int)) (N : Nat) (t p : Nat -> Int) (S : Nat -> Prop) (U : Int) (g0 : Tp) (v0 : Nat) (rk : Nat -> Nat) (h : Tp) : Prop where
 lf : h.lf = Z2 g0.lf v0 true
 le : ∀ v, v < N -> h.pr v <= g0.pr v
 vis : ∀ v, v < N -> h.lf v = true -> h.pr v = g0.pr v
 src : ∀ v, v < N -> S v -> h.pr v = 0 /\ (h.cm v).fr = -1
 ord : ∀ v, v < N -> h.lf v = false -> g0.pr v0 <= h.pr v
 bd : ∀ v, v < N -> h.pr v = 1000000000 ∨ h.pr v + p v <= U + 1280001 * ((cnB g0.lf N : Int) + 1)
 cam : ∀ v, v < N -> ¬ h.pr v = 1000000000 -> S v ∨ ∃ u, u < N /\ h.lf u = true /\ Rs ts t u (h.cm v) /\ (h.cm v).to = v /\ h.pr v = h.pr u + (h.cm v).ms + p u - p v /\ (h.lf v = true -> Z2 rk v0 (cnB g0.lf N) u < Z2 rk v0 (cnB g0.lf N) v)
theorem Dq.up {ts : List (List Int)} {N : Nat} {t p : Nat -> Int} {S : Nat -> Prop} {U : Int} {g0 : Tp} {v0 : Nat} {rk : Nat -> Nat} {h : Tp} {i to : Nat} {bk : Bool} {ms : Int} (k : Kpt ts N t p) (hj : Dj ts N t p S U g0 rk) (hv : v0 < N) (hv2 : g0.lf v0 = false) (hvf : ¬ g0.pr v0 = 1000000000) (hq : Dq ts N t p S U g0 v0 rk h) (hr : Rs ts t v0 ⟨i, bk, (v0 : Int), to, ms⟩) :
 Dq ts N t p S U g0 v0 rk (upT p h v0 i bk to ms) /\ (upT p h v0 i bk to ms).pr to <= g0.pr v0 + ms + p v0 - p to /\ ∀ v, v < N -> (upT p h v0 i bk to ms).pr v <= h.pr v := by
 obtain ⟨r1, r2, r3, r4, r5⟩ := hr.to_lt k;have r1 : to < N := r1;have r2 : to ≠ v0 := r2;have r3 : 0 <= ms + p v0 - p to := r3;have r4 : ms <= 1280001 := r4;have hl0 : h.lf v0 = true := by rw [hq.lf, V2]
 have hp0 := hq.vis v0 hv hl0;have hpos := hj.pos v0 hv;unfold upT;by_cases c : h.pr v0 + ms + p v0 - p to < h.pr to
 ·rw [if_pos c]
  have hnv : h.lf to = false := by
   cases e : h.lf to with
   | false => rfl
   | true =>
    have h1 := hq.vis to r1 e;rw [hq.lf, Q1 r2] at e;have h2 := hj.ord to v0 r1 hv e hv2;omega
  have hnS : ¬ S to := fun s => by
   have := (hq.src to r1 s).1;omega
  refine ⟨⟨hq.lf, fun v hv' => ?_, fun v hv' hl => ?_, fun v hv' hs => ?_, fun v hv' hl => ?_, fun v hv' => ?_, fun v hv' hf => ?_⟩, ?_, fun v hv' => ?_⟩
  ·show Z2 h.pr to _ v <= _
   by_cases e : v = to
   ·subst e; rw [V2]; have := hq.le v hv'; omega
   ·rw [Q1 e]; exact hq.le v hv'
  ·have hl : h.lf v = true := hl
   show Z2 h.pr to _ v = _;rw [Q1 (fun e => by rw [e, hnv] at hl; cases hl)];exact hq.vis v hv' hl
  ·have ne : v ≠ to := fun e => hnS (e ▸ hs)
   show Z2 h.pr to _ v = 0 /\ (Z2 h.cm to _ v).fr = -1;rw [Q1 ne, Q1 ne]; exact hq.src v hv' hs
  ·show g0.pr v0 <= Z2 h.pr to _ v
   by_cases e : v = to
   ·subst e; rw [V2]; omega
   ·rw [Q1 e]; exact hq.ord v hv' hl
  ·show Z2 h.pr to _ v = _ ∨ Z2 h.pr to _ v + p v <= _
   by_cases e : v = to
   ·subst e
    rw [V2];have := (hj.bd v0 hv).resolve_left hvf;exact .inr (by omega)
   ·rw [Q1 e]; exact hq.bd v hv'
  ·show S v ∨ ∃ u, u < N /\ h.lf u = true /\ Rs ts t u (Z2 h.cm to _ v) /\ (Z2 h.cm to _ v).to = v /\ Z2 h.pr to _ v = Z2 h.pr to _ u + (Z2 h.cm to _ v).ms + p u - p v /\ (h.lf v = true -> Z2 rk v0 (cnB g0.lf N) u < Z2 rk v0 (cnB g0.lf N) v)
   by_cases e : v = to
   ·subst e
    rw [V2, V2];refine .inr ⟨v0, hv, hl0, hr, rfl, ?_, fun q => by rw [hnv] at q; cases q⟩;rw [Q1 (fun e => r2 e.symm)]
   ·have hf' : ¬ Z2 h.pr to (h.pr v0 + ms + p v0 - p to) v = 1000000000 := hf
    rw [Q1 e] at hf';rw [Q1 e, Q1 e];rcases hq.cam v hv' hf' with q | ⟨u, u1, u2, u3, u4, u5, u6⟩
    ·exact .inl q
    ·refine .inr ⟨u, u1, u2, u3, u4, ?_, u6⟩
     rw [Q1 (fun e => by rw [e, hnv] at u2; cases u2)];exact u5
  ·show Z2 h.pr to _ to <= _
   rw [V2, hp0]; exact Int.le_refl _
  ·show Z2 h.pr to _ v <= _
   by_cases e : v = to
   ·subst e; rw [V2]; omega
   ·rw [Q1 e]; exact Int.le_refl _
 ·rw [if_neg c]
  exact ⟨hq, by omega, fun v _ => Int.le_refl _⟩
def Rq (ts : List (List Int)) (t p : Nat -> Int) (d : Int) (v0 q : Nat) (x : Nat -> Int) : Prop := ∀ j, j < q -> ∀ i : Nat, (nl ts ts.length v0).getD j 0 = (i : Int) -> (la ts i = v0 -> x (lb ts i) <= d + lw ts i + p v0 - p (lb ts i)) /\ (lb ts i = v0 -> 0 < t i -> x (la ts i) <= d + -(lw ts i) + p v0 - p (la ts i))
theorem Dq.step {ts : List (List Int)} {N : Nat} {t p : Nat -> Int} {S : Nat -> Prop} {U : Int} {g0 : Tp} {v0 : Nat} {rk : Nat -> Nat} {h : Tp} {q i : Nat} (k : Kpt ts N t p) (hj : Dj ts N t p S U g0 rk) (hv : v0 < N) (hv2 : g0.lf v0 = false) (hvf : ¬ g0.pr v0 = 1000000000) (hq : Dq ts N t p S U g0 v0 rk h) (hR : Rq ts t p (g0.pr v0) v0 q h.pr)
 (hi : (nl ts ts.length v0).getD q 0 = (i : Int)) (hil : i < ts.length) (hn : la ts i = v0 ∨ lb ts i = v0) : Dq ts N t p S U g0 v0 rk (rxT ts t p h v0 i) /\ Rq ts t p (g0.pr v0) v0 (q + 1) (rxT ts t p h v0 i).pr := by
 obtain ⟨k1, k2, k3, _, _⟩ := k.lg i hil;have more : ∀ h' : Tp, (∀ v, v < N -> h'.pr v <= h.pr v) -> ((la ts i = v0 -> h'.pr (lb ts i) <= g0.pr v0 + lw ts i + p v0 - p (lb ts i)) /\ (lb ts i = v0 -> 0 < t i -> h'.pr (la ts i) <= g0.pr v0 + -(lw ts i) + p v0 - p (la ts i))) -> Rq ts t p (g0.pr v0) v0 (q + 1) h'.pr := fun h' hle hh j hj' i' hi' => by
  by_cases e : j = q
  ·subst e
   have : i' = i := by rw [hi] at hi'; omega
   subst this;exact hh
  ·have h3 := hR j (by omega) i' hi'
   obtain ⟨i2, e2, l2, _⟩ : ∃ i2 : Nat, (nl ts ts.length v0).getD j 0 = (i2 : Int) /\ i2 < ts.length /\ True := by
    by_cases hjl : j < (nl ts ts.length v0).length
    ·obtain ⟨i2, a, b, _⟩ := nl_mem (ls := ts) (v := v0) (k := ts.length) hjl
     exact ⟨i2, a, b, trivial⟩
    ·rw [List.getD_eq_getElem?_getD, List.getElem?_eq_none (by omega)] at hi' ⊢
     exact ⟨0, rfl, by omega, trivial⟩
   have : i' = i2 := by rw [e2] at hi'; omega
   subst this;obtain ⟨a1, a2, _⟩ := k.lg i' l2;refine ⟨fun e3 => ?_, fun e3 e4 => ?_⟩
   ·have := h3.1 e3; have := hle _ a2; omega
   ·have := h3.2 e3 e4; have := hle _ a1; omega
 unfold rxT;by_cases c : lb ts i = v0
 ·rw [if_pos c]
  by_cases c2 : t i = 0
  ·rw [if_pos c2]
   exact ⟨hq, more h (fun v _ => Int.le_refl _) ⟨fun e => absurd (e.trans c.symm) k3, fun _ e => by omega⟩⟩
  ·rw [if_neg c2]
   have c3 := k.nn i hil;obtain ⟨u1, u2, u3⟩ := Dq.up (to := la ts i) (ms := -(lw ts i)) (bk := true) (i := i) k hj hv hv2 hvf hq ⟨hil, rfl, .inr ⟨rfl, c, rfl, rfl, (show 0 < t i by omega)⟩⟩;exact ⟨u1, more _ u3 ⟨fun e => absurd (e.trans c.symm) k3, fun _ _ => u2⟩⟩
 ·rw [if_neg c]
  have ha : la ts i = v0 := hn.resolve_right c;obtain ⟨u1, u2, u3⟩ := Dq.up (to := lb ts i) (ms := lw ts i) (bk := false) (i := i) k hj hv hv2 hvf hq ⟨hil, rfl, .inl ⟨rfl, ha, rfl, rfl⟩⟩;exact ⟨u1, more _ u3 ⟨fun _ => u2, fun e => absurd e c⟩⟩
theorem nam_ab {ts : List (List Int)} {M i v : Nat} (hg : Lg M ts) (hi : i < ts.length) : nam (ts.getD i []) v ↔ la ts i = v ∨ lb ts i = v := by
 obtain ⟨_, _, _, _, _, y3, e⟩ := hg i hi;have e2 : ts.getD i [] = [((la ts i : Nat) : Int), ((lb ts i : Nat) : Int), lw ts i, y3] := by rw [List.getD_eq_getElem?_getD, e]; rfl
 unfold nam;rw [e2];show ((la ts i : Nat) : Int) = (v : Int) ∨ ((lb ts i : Nat) : Int) = (v : Int) ↔ _;omega
theorem Dj.visit {ts : List (List Int)} {M : Nat} {t p : Nat -> Int} {S : Nat -> Prop} {U : Int} {g0 : Tp} {v0 : Nat} {rk : Nat -> Nat} (hg : Lg M ts) (k : Kpt ts (M + 1) t p) (hj : Dj ts (M + 1) t p S U g0 rk) (hv : v0 < M + 1) (hv2 : g0.lf v0 = false) (hvf : ¬ g0.pr v0 = 1000000000) (hmin : ∀ v, v < M + 1 -> g0.lf v = false -> g0.pr v0 <= g0.pr v) :
 (∀ q, q <= (nl ts ts.length v0).length -> Dq ts (M + 1) t p S U g0 v0 rk (rwT ts t p ⟨g0.pr, g0.cm, Z2 g0.lf v0 true⟩ v0 q) /\ Rq ts t p (g0.pr v0) v0 q (rwT ts t p ⟨g0.pr, g0.cm, Z2 g0.lf v0 true⟩ v0 q).pr) /\
 Dj ts (M + 1) t p S U (rwT ts t p ⟨g0.pr, g0.cm, Z2 g0.lf v0 true⟩ v0 (nl ts ts.length v0).length) (Z2 rk v0 (cnB g0.lf (M + 1))) := by
 have hS : S v0 -> g0.pr v0 = 0 := fun s => (hj.src v0 hv s).1
 have h0 : Dq ts (M + 1) t p S U g0 v0 rk ⟨g0.pr, g0.cm, Z2 g0.lf v0 true⟩ := by
  refine ⟨rfl, fun v _ => Int.le_refl _, fun v _ _ => rfl, hj.src, fun v hv' hl => ?_, fun v hv' => ?_, fun v hv' hf => ?_⟩
  ·have hl : Z2 g0.lf v0 true v = false := hl
   by_cases e : v = v0
   ·rw [e, V2] at hl; cases hl
   ·rw [Q1 e] at hl; exact hmin v hv' hl
  ·rcases hj.bd v hv' with q | q
   ·exact .inl q
   ·exact .inr (by show g0.pr v + p v <= _; omega)
  ·rcases hj.cam v hv' hf with q | ⟨u, u1, u2, u3, u4, u5, u6⟩
   ·exact .inl q
   ·have hu : u ≠ v0 := fun e => by rw [e, hv2] at u2; cases u2
    refine .inr ⟨u, u1, ?_, u3, u4, u5, fun hl => ?_⟩
    ·show Z2 g0.lf v0 true u = true
     rw [Q1 hu]; exact u2
    ·have hl : Z2 g0.lf v0 true v = true := hl
     rw [Q1 hu];by_cases e : v = v0
     ·rw [e, V2]; exact hj.rkc u u1 u2
     ·rw [Q1 e] at hl ⊢
      exact u6 hl
 have hall : ∀ q, q <= (nl ts ts.length v0).length -> Dq ts (M + 1) t p S U g0 v0 rk (rwT ts t p ⟨g0.pr, g0.cm, Z2 g0.lf v0 true⟩ v0 q) /\ Rq ts t p (g0.pr v0) v0 q (rwT ts t p ⟨g0.pr, g0.cm, Z2 g0.lf v0 true⟩ v0 q).pr := by
  intro q
  induction q with
  | zero => intro _; exact ⟨h0, fun j hj => absurd hj (Nat.not_lt_zero j)⟩
  | succ q ih =>
   intro hq;obtain ⟨i1, i2⟩ := ih (by omega);obtain ⟨i, hi, hil, hn⟩ := nl_mem (ls := ts) (v := v0) (k := ts.length) (q := q) (by omega);have := Dq.step k hj hv hv2 hvf i1 i2 hi hil ((nam_ab hg hil).1 hn);show Dq ts (M + 1) t p S U g0 v0 rk (rxT ts t p _ v0 ((nl ts ts.length v0).getD q 0).toNat) /\ Rq ts t p (g0.pr v0) v0 (q + 1) (rxT ts t p _ v0 ((nl ts ts.length v0).getD q 0).toNat).pr;rw [hi, Int.toNat_natCast];exact this
 refine ⟨hall, ?_⟩;obtain ⟨d, r⟩ := hall _ (Nat.le_refl _);generalize rwT ts t p ⟨g0.pr, g0.cm, Z2 g0.lf v0 true⟩ v0 (nl ts ts.length v0).length = h at d r;have hcn : cnB h.lf (M + 1) = cnB g0.lf (M + 1) + 1 := by rw [d.lf]; exact cnB_upd hv2 hv
 have hvis : ∀ v, v < M + 1 -> h.lf v = true -> v = v0 ∨ g0.lf v = true := fun v _ hl => by
  rw [d.lf] at hl;by_cases e : v = v0
  ·exact .inl e
  ·rw [Q1 e] at hl; exact .inr hl
 refine ⟨d.src, fun v hv' => ?_, fun v hv' => ?_, d.cam, fun v hv' hl => ?_, fun v hv' hl => ?_, fun u v hu hv' hl hl2 => ?_, fun u hu hl i hi => ?_⟩
 ·by_cases e : h.lf v = true
  ·rw [d.vis v hv' e]; exact hj.pos v hv'
  ·have := d.ord v hv' (by simpa using e)
   have := hj.pos v0 hv;omega
 ·rw [hcn]
  rcases d.bd v hv' with q | q
  ·exact .inl q
  ·exact .inr (by omega)
 ·rw [hcn]
  rcases hvis v hv' hl with e | e
  ·rw [e, V2]; omega
  ·by_cases e2 : v = v0
   ·rw [e2, V2]; omega
   ·rw [Q1 e2]; have := hj.rkc v hv' e; omega
 ·rw [d.vis v hv' hl]
  rcases hvis v hv' hl with e | e
  ·rw [e]; exact hvf
  ·exact hj.fin v hv' e
 ·rw [d.vis u hu hl]
  have h2 := d.ord v hv' hl2;rcases hvis u hu hl with e | e
  ·rw [e]; exact h2
  ·have := hj.ord u v0 hu hv e hv2
   omega
 ·obtain ⟨a1, a2, _⟩ := k.lg i hi
  rw [d.vis u hu hl];rcases hvis u hu hl with e | e
  ·subst e
   refine ⟨fun e3 => ?_, fun e3 e4 => ?_⟩
   ·obtain ⟨j, j1, j2⟩ := nl_has (ls := ts) (v := u) (i := i) ((nam_ab hg hi).2 (.inl e3)) (k := ts.length) hi
    exact (r j j1 i j2).1 e3
   ·obtain ⟨j, j1, j2⟩ := nl_has (ls := ts) (v := u) (i := i) ((nam_ab hg hi).2 (.inr e3)) (k := ts.length) hi
    exact (r j j1 i j2).2 e3 e4
  ·have h3 := hj.rel u hu e i hi
   refine ⟨fun e3 => ?_, fun e3 e4 => ?_⟩
   ·have := h3.1 e3; have := d.le _ a2; omega
   ·have := h3.2 e3 e4; have := d.le _ a1; omega
section
variable {X : FuncId -> List Value -> St -> (Value -> St -> Bool) -> Bool}
end
theorem Dj.start {ts : List (List Int)} {N : Nat} {t p : Nat -> Int} {S : Nat -> Prop} [DecidablePred S] {U : Int} {g : Tp} (h1 : ∀ v, v < N -> g.pr v = if S v then 0 else 1000000000) (h2 : ∀ v, v < N -> S v -> (g.cm v).fr = -1) (h3 : ∀ v, v < N -> g.lf v = false) (hU : ∀ v, v < N -> S v -> p v <= U) : Dj ts N t p S U g (fun _ => 0) := by
 have hc : cnB g.lf N = 0 := by
  have : ∀ k, k <= N -> cnB g.lf k = 0 := by
   intro k
   induction k with
   | zero => intro _; rfl
   | succ k ih =>
    intro hk;show cnB g.lf k + (if g.lf k = true then 1 else 0) = 0;rw [ih (by omega), h3 k (by omega)]; rfl
  exact this N (Nat.le_refl _)
 refine ⟨fun v hv s => ⟨by rw [h1 v hv, if_pos s], h2 v hv s⟩, fun v hv => ?_, fun v hv => ?_, fun v hv hf => ?_, fun v hv hl => ?_, fun v hv hl => ?_, fun u v hu hv hl => ?_, fun u hu hl => ?_⟩
 ·rw [h1 v hv]; split <;> decide
 ·rw [h1 v hv, hc]
  by_cases s : S v
  ·rw [if_pos s]; have := hU v hv s; exact .inr (by omega)
  ·rw [if_neg s]; exact .inl rfl
 ·rw [h1 v hv] at hf
  by_cases s : S v
  ·exact .inl s
  ·rw [if_neg s] at hf; exact absurd rfl hf
 ·rw [h3 v hv] at hl; cases hl
 ·rw [h3 v hv] at hl; cases hl
 ·rw [h3 u hu] at hl; cases hl
 ·rw [h3 u hu] at hl; cases hl
def ptN (p : Nat -> Int) (g : Tp) (v0 : Nat) (v : Nat) : Int := p v + min (g.pr v) (g.pr v0)
theorem ptN_st {ts : List (List Int)} {N : Nat} {t p : Nat -> Int} {S : Nat -> Prop} {U : Int} {g : Tp} {v0 : Nat} {rk : Nat -> Nat} (k : Kpt ts N t p) (hj : Dj ts N t p S U g rk) (hv : v0 < N) (hv2 : g.lf v0 = false) (hmin : ∀ v, v < N -> g.lf v = false -> g.pr v0 <= g.pr v) : Kpt ts N t (ptN p g v0) := by
 have low : ∀ u, u < N -> g.lf u = true -> g.pr u <= g.pr v0 := fun u hu hl => hj.ord u v0 hu hv hl hv2
 have fwd : ∀ i, i < ts.length -> ptN p g v0 (lb ts i) <= ptN p g v0 (la ts i) + lw ts i := fun i hi => by
  obtain ⟨a1, a2, _⟩ := k.lg i hi;have h1 := k.st i hi;unfold ptN;cases e : g.lf (la ts i) with
  | true =>
   have h2 := (hj.rel _ a1 e i hi).1 rfl;have h3 := low _ a1 e;omega
  | false =>
   have h2 := hmin _ a1 e;omega
 have bck : ∀ i, i < ts.length -> 0 < t i -> ptN p g v0 (la ts i) <= ptN p g v0 (lb ts i) - lw ts i := fun i hi ht => by
  obtain ⟨a1, a2, _⟩ := k.lg i hi;have h1 := k.ti i hi ht;unfold ptN;cases e : g.lf (lb ts i) with
  | true =>
   have h2 := (hj.rel _ a2 e i hi).2 rfl ht;have h3 := low _ a2 e;omega
  | false =>
   have h2 := hmin _ a2 e;omega
 exact ⟨k.lg, k.nn, fwd, fun i hi ht => by have := fwd i hi; have := bck i hi ht; omega⟩
def chn (g : Tp) (v0 : Nat) : Nat -> Nat
 | 0 => v0
 | j + 1 => (g.cm (chn g v0 j)).fr.toNat
structure Wy (ts : List (List Int)) (N : Nat) (t p : Nat -> Int) (S : Nat -> Prop) (g : Tp) (v0 : Nat) (rk : Nat -> Nat) (w : Nat) : Prop where
 lt : ∀ j, j <= w -> chn g v0 j < N
 fin : ∀ j, j <= w -> ¬ g.pr (chn g v0 j) = 1000000000
 lf : ∀ j, 0 < j -> j <= w -> g.lf (chn g v0 j) = true
 rs : ∀ j, j < w -> Rs ts t (chn g v0 (j + 1)) (g.cm (chn g v0 j)) /\ (g.cm (chn g v0 j)).to = chn g v0 j /\ g.pr (chn g v0 j) = g.pr (chn g v0 (j + 1)) + (g.cm (chn g v0 j)).ms + p (chn g v0 (j + 1)) - p (chn g v0 j)
 rk : ∀ j, j < w -> Z2 rk v0 (cnB g.lf N) (chn g v0 (j + 1)) < Z2 rk v0 (cnB g.lf N) (chn g v0 j)
theorem Wy.zero {ts : List (List Int)} {N : Nat} {t p : Nat -> Int} {S : Nat -> Prop} {g : Tp} {v0 : Nat} {rk : Nat -> Nat} (hv : v0 < N) (hf : ¬ g.pr v0 = 1000000000) : Wy ts N t p S g v0 rk 0 := by
 refine ⟨fun j hj => ?_, fun j hj => ?_, fun j h1 h2 => by omega, fun j hj => absurd hj (Nat.not_lt_zero j), fun j hj => absurd hj (Nat.not_lt_zero j)⟩
 ·rw [show j = 0 by omega]; exact hv
 ·rw [show j = 0 by omega]; exact hf
theorem Wy.rank {ts : List (List Int)} {N : Nat} {t p : Nat -> Int} {S : Nat -> Prop} {g : Tp} {v0 : Nat} {rk : Nat -> Nat} {w : Nat} (h : Wy ts N t p S g v0 rk w) : ∀ {j : Nat}, j <= w -> Z2 rk v0 (cnB g.lf N) (chn g v0 j) + j <= cnB g.lf N
 | 0, _ => by show Z2 rk v0 (cnB g.lf N) v0 + 0 <= _; rw [V2]; exact Nat.le_refl _
 | j + 1, hj => by
  have := h.rank (j := j) (by omega);have := h.rk j (by omega);omega
theorem Wy.next {ts : List (List Int)} {N : Nat} {t p : Nat -> Int} {S : Nat -> Prop} {U : Int} {g : Tp} {v0 : Nat} {rk : Nat -> Nat} {w : Nat} (hj : Dj ts N t p S U g rk) (hv2 : g.lf v0 = false) (h : Wy ts N t p S g v0 rk w) (hn : ¬ (g.cm (chn g v0 w)).fr = -1) : Wy ts N t p S g v0 rk (w + 1) := by
 have hlt := h.lt w (Nat.le_refl _);have hnS : ¬ S (chn g v0 w) := fun s => hn (hj.src _ hlt s).2
 obtain ⟨u, u1, u2, u3, u4, u5, u6⟩ := (hj.cam _ hlt (h.fin w (Nat.le_refl _))).resolve_left hnS;have e : chn g v0 (w + 1) = u := by
  show (g.cm (chn g v0 w)).fr.toNat = u;rw [u3.fr, Int.toNat_natCast]
 have hu : u ≠ v0 := fun q => by rw [q, hv2] at u2; cases u2
 refine ⟨fun j hj' => ?_, fun j hj' => ?_, fun j h1 h2 => ?_, fun j hj' => ?_, fun j hj' => ?_⟩
 ·by_cases q : j = w + 1
  ·rw [q, e]; exact u1
  ·exact h.lt j (by omega)
 ·by_cases q : j = w + 1
  ·rw [q, e]; exact hj.fin u u1 u2
  ·exact h.fin j (by omega)
 ·by_cases q : j = w + 1
  ·rw [q, e]; exact u2
  ·exact h.lf j h1 (by omega)
 ·by_cases q : j = w
  ·rw [q, e]; exact ⟨u3, u4, u5⟩
  ·exact h.rs j (by omega)
 ·by_cases q : j = w
  ·rw [q, e, Q1 hu]
   by_cases z : w = 0
   ·rw [z]
    show rk u < Z2 rk v0 _ v0;rw [V2]; exact hj.rkc u u1 u2
   ·have hl := h.lf w (by omega) (Nat.le_refl _)
    have hc : chn g v0 w ≠ v0 := fun q => by rw [q, hv2] at hl; cases hl
    rw [Q1 hc]; exact u6 hl
  ·exact h.rk j (by omega)
def stp' (g : Tp) (v0 L m : Nat) : Cm := g.cm (chn g v0 (L - 1 - m))
def twT (t : Nat -> Int) (n : Int) (σ : Nat -> Cm) : Nat -> Nat -> Int
 | 0 => t
 | m + 1 => Z2 (twT t n σ m) (σ m).lim (if (σ m).bk = true then twT t n σ m (σ m).lim - n else twT t n σ m (σ m).lim + n)
theorem net_upd {ts : List (List Int)} {t : Nat -> Int} {i v : Nat} {d : Int} : ∀ {k : Nat}, net ts (Z2 t i (t i + d)) k v = net ts t k v + (if i < k then (if lb ts i = v then d else 0) - (if la ts i = v then d else 0) else 0)
 | 0 => by show (0 : Int) = 0 + _; rw [if_neg (Nat.not_lt_zero _)]; rfl
 | k + 1 => by
  have ih := net_upd (ts := ts) (t := t) (i := i) (v := v) (d := d) (k := k);show net ts (Z2 t i (t i + d)) k v + ((if lb ts k = v then Z2 t i (t i + d) k else 0) - (if la ts k = v then Z2 t i (t i + d) k else 0)) = net ts t k v + ((if lb ts k = v then t k else 0) - (if la ts k = v then t k else 0)) + _;rw [ih];by_cases q : k = i
  ·subst q
   rw [V2, if_neg (Nat.lt_irrefl _), if_pos (Nat.lt_succ_self _)];by_cases c1 : lb ts k = v
   ·by_cases c2 : la ts k = v
    ·simp only [if_pos c1, if_pos c2]; omega
    ·simp only [if_pos c1, if_neg c2]; omega
   ·by_cases c2 : la ts k = v
    ·simp only [if_neg c1, if_pos c2]; omega
    ·simp only [if_neg c1, if_neg c2]; omega
  ·rw [Q1 q]
   by_cases c : i < k
   ·rw [if_pos c, if_pos (show i < k + 1 by omega)]; omega
   ·rw [if_neg c, if_neg (show ¬ i < k + 1 by omega)]; omega
theorem tw_net {ts : List (List Int)} {N : Nat} {t p : Nat -> Int} {S : Nat -> Prop} {g : Tp} {v0 : Nat} {rk : Nat -> Nat} {L : Nat} {n : Int} (h : Wy ts N t p S g v0 rk L) {v : Nat} : ∀ {m : Nat}, m <= L -> net ts (twT t n (stp' g v0 L) m) ts.length v = net ts t ts.length v + ((if chn g v0 (L - m) = v then n else 0) - (if chn g v0 L = v then n else 0))
 | 0, _ => by
  show net ts t ts.length v = _;rw [Nat.sub_zero]; omega
 | m + 1, hm => by
  have ih := tw_net h (n := n) (v := v) (m := m) (by omega);obtain ⟨r1, r2, r3⟩ := h.rs (L - 1 - m) (by omega);rw [show L - 1 - m + 1 = L - m by omega] at r1;have e : chn g v0 (L - (m + 1)) = chn g v0 (L - 1 - m) := by congr 1; omega
  rw [e];have hlt := r1.lt;rcases r1.wh with ⟨w0, w1, w2, w3⟩ | ⟨w0, w1, w2, w3, w4⟩
  ·have e2 : twT t n (stp' g v0 L) (m + 1) = Z2 (twT t n (stp' g v0 L) m) (stp' g v0 L m).lim (twT t n (stp' g v0 L) m (stp' g v0 L m).lim + n) := by
    show Z2 _ _ (if (stp' g v0 L m).bk = true then _ else _) = _;rw [if_neg (by show ¬ (g.cm (chn g v0 (L - 1 - m))).bk = true; rw [w0]; decide)]
   rw [e2, net_upd, ih];have hlt' : (stp' g v0 L m).lim < ts.length := hlt;rw [if_pos hlt'];have a1 : la ts (stp' g v0 L m).lim = chn g v0 (L - m) := w1;have a2 : lb ts (stp' g v0 L m).lim = chn g v0 (L - 1 - m) := w2.symm.trans r2;rw [a1, a2];omega
  ·have e2 : twT t n (stp' g v0 L) (m + 1) = Z2 (twT t n (stp' g v0 L) m) (stp' g v0 L m).lim (twT t n (stp' g v0 L) m (stp' g v0 L m).lim + -n) := by
    show Z2 _ _ (if (stp' g v0 L m).bk = true then _ else _) = _;rw [if_pos (show (stp' g v0 L m).bk = true from w0)]; rfl
   rw [e2, net_upd, ih];have hlt' : (stp' g v0 L m).lim < ts.length := hlt;rw [if_pos hlt'];have a1 : lb ts (stp' g v0 L m).lim = chn g v0 (L - m) := w1;have a2 : la ts (stp' g v0 L m).lim = chn g v0 (L - 1 - m) := w2.symm.trans r2;rw [a1, a2];by_cases c1 : chn g v0 (L - m) = v
   ·by_cases c2 : chn g v0 (L - 1 - m) = v
    ·simp only [if_pos c1, if_pos c2]; omega
    ·simp only [if_pos c1, if_neg c2]; omega
   ·by_cases c2 : chn g v0 (L - 1 - m) = v
    ·simp only [if_neg c1, if_pos c2]; omega
    ·simp only [if_neg c1, if_neg c2]; omega
theorem tw_or {t : Nat -> Int} {n : Int} {σ : Nat -> Cm} {i : Nat} : ∀ {m : Nat}, twT t n σ m i = t i ∨ ∃ j, j < m /\ (σ j).lim = i
 | 0 => .inl rfl
 | m + 1 => by
  rcases tw_or (t := t) (n := n) (σ := σ) (i := i) (m := m) with h | ⟨j, h1, h2⟩
  ·by_cases q : i = (σ m).lim
   ·exact .inr ⟨m, by omega, q.symm⟩
   ·refine .inl ?_
    show Z2 _ _ _ i = _;rw [Q1 q]; exact h
  ·exact .inr ⟨j, by omega, h2⟩
theorem Wy.inj {ts : List (List Int)} {N : Nat} {t p : Nat -> Int} {S : Nat -> Prop} {g : Tp} {v0 : Nat} {rk : Nat -> Nat} {w : Nat} (h : Wy ts N t p S g v0 rk w) {i j : Nat} (hi : i <= w) (hj : j <= w) (e : chn g v0 i = chn g v0 j) : i = j := by
 have key : ∀ d i, i + (d + 1) <= w -> Z2 rk v0 (cnB g.lf N) (chn g v0 (i + (d + 1))) < Z2 rk v0 (cnB g.lf N) (chn g v0 i) := by
  intro d
  induction d with
  | zero => intro i hi; exact h.rk i (by omega)
  | succ d ih =>
   intro i hi;have h1 := ih i (by omega);have h2 := h.rk (i + (d + 1)) (by omega);rw [show i + (d + 1 + 1) = i + (d + 1) + 1 by omega];omega
 refine Classical.byContradiction (fun q => ?_);rcases Nat.lt_or_ge i j with c | c
 ·have := key (j - i - 1) i (by omega)
  rw [show i + (j - i - 1 + 1) = j by omega, e] at this;omega
 ·have := key (i - j - 1) j (by omega)
  rw [show j + (i - j - 1 + 1) = i by omega, e] at this;omega
theorem tw_nn {ts : List (List Int)} {N : Nat} {t p : Nat -> Int} {S : Nat -> Prop} {g : Tp} {v0 : Nat} {rk : Nat -> Nat} {L : Nat} {n : Int} (k : Kpt ts N t p) (h : Wy ts N t p S g v0 rk L) (hn : 0 <= n) (hb : ∀ m, m < L -> (stp' g v0 L m).bk = true -> n <= t (stp' g v0 L m).lim) : ∀ {m : Nat}, m <= L -> (∀ i, i < ts.length -> 0 <= twT t n (stp' g v0 L) m i) /\ ∀ j, m <= j -> j < L -> (stp' g v0 L j).bk = true -> n <= twT t n (stp' g v0 L) m (stp' g v0 L j).lim
 | 0, _ => ⟨k.nn, fun j _ hj hk => hb j hj hk⟩
 | m + 1, hm => by
  obtain ⟨i1, i2⟩ := tw_nn k h hn hb (m := m) (by omega);refine ⟨fun i hi => ?_, fun j hj hj2 hk => ?_⟩
  ·show 0 <= Z2 _ _ _ i
   by_cases q : i = (stp' g v0 L m).lim
   ·rw [q, V2]
    have h1 := i1 i hi;rw [q] at h1;by_cases c : (stp' g v0 L m).bk = true
    ·rw [if_pos c]; have := i2 m (Nat.le_refl _) (by omega) c; omega
    ·rw [if_neg c]; omega
   ·rw [Q1 q]; exact i1 i hi
  ·show n <= Z2 _ _ _ (stp' g v0 L j).lim
   have h2 := i2 j (by omega) hj2 hk;by_cases q : (stp' g v0 L j).lim = (stp' g v0 L m).lim
   ·rw [q, V2]
    rw [q] at h2;by_cases c : (stp' g v0 L m).bk = true
    ·obtain ⟨r1, r2, _⟩ := h.rs (L - 1 - m) (by omega)
     obtain ⟨s1, s2, _⟩ := h.rs (L - 1 - j) (by omega);have a1 := (r1.wh.resolve_left (fun z => by have : (stp' g v0 L m).bk = false := z.1; rw [this] at c; cases c)).2.2.1;have a2 := (s1.wh.resolve_left (fun z => by have : (stp' g v0 L j).bk = false := z.1; rw [this] at hk; cases hk)).2.2.1;rw [r2] at a1;rw [s2] at a2;have a3 : la ts (g.cm (chn g v0 (L - 1 - j))).lim = la ts (g.cm (chn g v0 (L - 1 - m))).lim := congrArg (la ts) q;have := h.inj (i := L - 1 - m) (j := L - 1 - j) (by omega) (by omega) (by rw [a1, a2]; exact a3.symm);omega
    ·rw [if_neg c]; omega
   ·rw [Q1 q]; exact h2
theorem tw_sum {ts : List (List Int)} {t : Nat -> Int} {n : Int} {σ : Nat -> Cm} {K : Nat} (hn : 0 <= n) : ∀ {m : Nat}, (∀ j, j < m -> (σ j).lim < K) -> tot (twT t n σ m) K <= tot t K + n * (m : Int)
 | 0, _ => by show tot t K <= tot t K + n * 0; omega
 | m + 1, h => by
  have ih := tw_sum (ts := ts) (t := t) (σ := σ) hn (m := m) (fun j hj => h j (by omega));have hl := h m (by omega);show tot (Z2 _ _ _) K <= _;rw [tot_upd hl, Int.natCast_add, Int.mul_add];split
  ·show _ + (_ - n - _) <= _ + (_ + n * 1); omega
  ·show _ + (_ + n - _) <= _ + (_ + n * 1); omega
theorem tw_dv {t : Nat -> Int} {n d : Int} {σ : Nat -> Cm} {K : Nat} (hn : d ∣ n) (ht : ∀ i, i < K -> d ∣ t i) : ∀ {m : Nat}, ∀ i, i < K -> d ∣ twT t n σ m i
 | 0, i, hi => ht i hi
 | m + 1, i, hi => by
  have ih := tw_dv hn ht (σ := σ) (m := m);show d ∣ Z2 _ _ _ i;by_cases q : i = (σ m).lim
  ·rw [q, V2]
   have h1 := ih i hi;rw [q] at h1;split
   ·exact Int.dvd_sub h1 hn
   ·exact Int.dvd_add h1 hn
  ·rw [Q1 q]; exact ih i hi
theorem way_ti {ts : List (List Int)} {N : Nat} {t p : Nat -> Int} {S : Nat -> Prop} {U : Int} {g : Tp} {v0 : Nat} {rk : Nat -> Nat} {L : Nat} (hj : Dj ts N t p S U g rk) (hv : v0 < N) (hv2 : g.lf v0 = false) (h : Wy ts N t p S g v0 rk L) {j : Nat} (hjL : j < L) : ptN p g v0 (lb ts (stp' g v0 L j).lim) = ptN p g v0 (la ts (stp' g v0 L j).lim) + lw ts (stp' g v0 L j).lim := by
 obtain ⟨r1, r2, r3⟩ := h.rs (L - 1 - j) (by omega);have low : ∀ i, i <= L -> g.pr (chn g v0 i) <= g.pr v0 := fun i hi => by
  by_cases z : i = 0
  ·rw [z]; exact Int.le_refl _
  ·exact hj.ord _ v0 (h.lt i hi) hv (h.lf i (by omega) hi) hv2
 have l1 := low (L - 1 - j) (by omega);have l2 := low (L - 1 - j + 1) (by omega);unfold ptN;rcases r1.wh with ⟨_, w1, w2, w3⟩ | ⟨_, w1, w2, w3, _⟩
 ·have a1 : la ts (stp' g v0 L j).lim = chn g v0 (L - 1 - j + 1) := w1
  have a2 : lb ts (stp' g v0 L j).lim = chn g v0 (L - 1 - j) := w2.symm.trans r2;have a3 : lw ts (stp' g v0 L j).lim = (g.cm (chn g v0 (L - 1 - j))).ms := w3.symm;rw [a1, a2, a3]; omega
 ·have a1 : lb ts (stp' g v0 L j).lim = chn g v0 (L - 1 - j + 1) := w1
  have a2 : la ts (stp' g v0 L j).lim = chn g v0 (L - 1 - j) := w2.symm.trans r2;have a3 : (g.cm (chn g v0 (L - 1 - j))).ms = -(lw ts (stp' g v0 L j).lim) := w3;rw [a1, a2]; omega
def dueN (due : Nat -> Int) (a b : Nat) (n : Int) : Nat -> Int := Z2 (Z2 due a (due a + n)) b (Z2 due a (due a + n) b - n)
theorem moved_ld {ts : List (List Int)} {N : Nat} {t p w due : Nat -> Int} {S : Nat -> Prop} {U : Int} {g : Tp} {v0 : Nat} {rk : Nat -> Nat} {L : Nat} {n : Int} (k : Kpt ts N t p) (hl : Ld ts N w due t p) (hj : Dj ts N t p S U g rk) (hv : v0 < N) (hv2 : g.lf v0 = false) (hmin : ∀ v, v < N -> g.lf v = false -> g.pr v0 <= g.pr v) (h : Wy ts N t p S g v0 rk L) (hn : 0 <= n) (hb : ∀ m, m < L -> (stp' g v0 L m).bk = true -> n <= t (stp' g v0 L m).lim) (hne : chn g v0 L ≠ v0) :
 Ld ts N w (dueN due (chn g v0 L) v0 n) (twT t n (stp' g v0 L) L) (ptN p g v0) /\ Kpt ts N (twT t n (stp' g v0 L) L) (ptN p g v0) := by
 have k2 := ptN_st k hj hv hv2 hmin;have hnn := (tw_nn k h hn hb (Nat.le_refl L)).1;have hti : ∀ i, i < ts.length -> 0 < twT t n (stp' g v0 L) L i -> ptN p g v0 (lb ts i) = ptN p g v0 (la ts i) + lw ts i := fun i hi hp => by
  rcases tw_or (t := t) (n := n) (σ := stp' g v0 L) (i := i) (m := L) with e | ⟨j, j1, j2⟩
  ·rw [e] at hp; exact k2.ti i hi hp
  ·rw [<- j2]; exact way_ti hj hv hv2 h j1
 refine ⟨⟨hnn, fun v hv' => ?_, k2.st, hti⟩, ⟨k.lg, hnn, k2.st, hti⟩⟩;rw [tw_net h (Nat.le_refl L), hl.nt v hv', Nat.sub_self];show w v - due v + ((if v0 = v then n else 0) - (if chn g v0 L = v then n else 0)) = w v - Z2 _ _ _ v;by_cases c1 : v = v0
 ·subst c1
  rw [V2, Q1 (fun e => hne e.symm), if_pos rfl, if_neg hne]; omega
 ·rw [Q1 c1, if_neg (fun e => c1 e.symm)]
  by_cases c2 : v = chn g v0 L
  ·rw [c2, V2, if_pos rfl]; omega
  ·rw [Q1 c2, if_neg (fun e => c2 e.symm)]; omega
section
variable {X : FuncId -> List Value -> St -> (Value -> St -> Bool) -> Bool}
end
end Ev
end Go.Proofs.YtoeklhdklcpllaaGreat
