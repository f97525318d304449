import Derived.Test.YtoeklhdklcpllaaZc10
set_option linter.unusedVariables false
set_option linter.unusedSimpArgs false
namespace Go.Proofs.Ytoeklhdklcpllaa
open Go Go.RowKit
namespace Ev
def la (ls : List (List Int)) (i : Nat) : Nat := ((ls.getD i []).getD 0 0).toNat
def lb (ls : List (List Int)) (i : Nat) : Nat := ((ls.getD i []).getD 1 0).toNat
def lw (ls : List (List Int)) (i : Nat) : Int := (ls.getD i []).getD 2 0
structure Lim (ls : List (List Int)) (M i : Nat) : Prop where
 row : ∃ y3, ls[i]? = some [((la ls i : Nat) : Int), ((lb ls i : Nat) : Int), lw ls i, y3]
 ha : la ls i < M + 1
 hb : lb ls i < M + 1
 ne : la ls i ≠ lb ls i
 eb : (ls.getD i []).getD 1 0 = ((lb ls i : Nat) : Int)
 ea : (ls.getD i []).getD 0 0 = ((la ls i : Nat) : Int)
theorem lim_of {ls : List (List Int)} {M i : Nat} (hl : lmB (M : Int) ls = true) (hi : i < ls.length) : Lim ls M i := by
 obtain ⟨u0, u1, y2, y3, e, hc⟩ := lm_row hl hi;have e2 : ls.getD i [] = [(u0 : Int), (u1 : Int), y2, y3] := by rw [List.getD_eq_getElem?_getD, e]; rfl
 have h0 : la ls i = u0 := by unfold la; rw [e2]; exact Int.toNat_natCast u0
 have h1 : lb ls i = u1 := by unfold lb; rw [e2]; exact Int.toNat_natCast u1
 have h2 : lw ls i = y2 := by unfold lw; rw [e2]; rfl
 exact ⟨⟨y3, by rw [h0, h1, h2]; exact e⟩, by rw [h0]; omega, by rw [h1]; omega, by rw [h0, h1]; exact hc.2.2.1, by rw [h1, e2]; rfl, by rw [h0, e2]; rfl⟩
theorem rlx_eq {ls : List (List Int)} {M i f : Nat} {s : Fs} (h : Lim ls M i) : rlx ls s f i = if lb ls i = f then s else if s.x f + lw ls i < s.x (lb ls i) then ⟨W2 s.x (lb ls i) (s.x f + lw ls i), W2 s.c (lb ls i) (i, f, lb ls i, lw ls i), ((lb ls i : Nat) : Int)⟩ else s := by
 unfold rlx;rw [h.eb];by_cases q : lb ls i = f
 ·rw [if_pos q, if_pos (by rw [q])]
 ·rw [if_neg q, if_neg (by omega), Int.toNat_natCast]; rfl
theorem nl_has {ls : List (List Int)} {v i : Nat} (h : nam (ls.getD i []) v) : ∀ {k : Nat}, i < k -> ∃ q, q < (nl ls k v).length /\ (nl ls k v).getD q 0 = (i : Int)
 | k + 1, hk => by
  have e : nl ls (k + 1) v = nl ls k v ++ (if nam (ls.getD k []) v then [(k : Int)] else []) := rfl;rw [e];by_cases q : i = k
  ·subst q
   rw [if_pos h];refine ⟨(nl ls i v).length, by simp, ?_⟩;rw [List.getD_eq_getElem?_getD, List.getElem?_append_right (Nat.le_refl _)]; simp
  ·obtain ⟨p, h1, h2⟩ := nl_has h (k := k) (by omega)
   refine ⟨p, by rw [List.length_append]; omega, ?_⟩;rw [List.getD_eq_getElem?_getD] at h2 ⊢;rw [List.getElem?_append_left h1]; exact h2
def Cl (ls : List (List Int)) (x : Nat -> Int) (f : Nat) : Prop := ∀ i, i < ls.length -> la ls i = f -> x (lb ls i) <= x f + lw ls i
def Pq (ls : List (List Int)) (x : Nat -> Int) (t rd : Nat -> Nat) (p : Nat × Nat × Nat × Int) (b : Nat) : Prop := p.1 < ls.length /\ la ls p.1 = p.2.1 /\ lb ls p.1 = b /\ x p.2.1 + lw ls p.1 <= x b /\ (x p.2.1 + lw ls p.1 = x b -> t p.2.1 < t b) /\ rd b <= rd p.2.1 + 1
structure Gh (ls : List (List Int)) (N k : Nat) (s : Fs) (rd t : Nat -> Nat) (T : Nat) : Prop where
 par : ∀ b, b < N -> 0 < rd b -> Pq ls s.x t rd (s.c b) b
 tT : ∀ a, t a <= T
 rk : ∀ a, rd a <= k
 cl : ∀ a, a < N -> rd a + 2 <= k -> Cl ls s.x a
 last : s.l = -1 ∨ ∃ u : Nat, u < N /\ s.l = (u : Int) /\ rd u = k
 zr : ∀ a, a < N -> rd a = 0 -> s.x a = 0
def G2 (ls : List (List Int)) (k v : Nat) (x : Nat -> Int) (rd : Nat -> Nat) : Prop := ∀ a, a < v -> rd a + 1 <= k -> Cl ls x a
def G3 (ls : List (List Int)) (v q : Nat) (x : Nat -> Int) : Prop := ∀ p, p < q -> ∀ i : Nat, (nl ls ls.length v).getD p 0 = (i : Int) -> lb ls i ≠ v -> x (lb ls i) <= x v + lw ls i
theorem V0 {α : Type} {x : Nat -> α} {b : Nat} {z : α} {a : Nat} (h : a ≠ b) : W2 x b z a = x a := if_neg h
theorem U2 {α : Type} {x : Nat -> α} {b : Nat} {z : α} : W2 x b z b = z := if_pos rfl
theorem low_cl {ls : List (List Int)} {x : Nat -> Int} {b f : Nat} {z : Int} (h : Cl ls x f) (hz : z <= x b) (hf : f ≠ b) : Cl ls (W2 x b z) f := by
 intro i hi ha;have := h i hi ha;rw [V0 hf];by_cases q : lb ls i = b
 ·rw [q, U2]; rw [q] at this; omega
 ·rw [V0 q]; exact this
theorem Gh.step {ls : List (List Int)} {M k v q i : Nat} {s : Fs} {rd t : Nat -> Nat} {T : Nat} (hl : lmB (M : Int) ls = true) (hk : 0 < k) (hv : v < M + 1) (hi : (nl ls ls.length v).getD q 0 = (i : Int)) (hil : i < ls.length) (hn : nam (ls.getD i []) v)
 (h : Gh ls (M + 1) k s rd t T) (h2 : G2 ls k v s.x rd) (h3 : G3 ls v q s.x) : ∃ rd' t' T', Gh ls (M + 1) k (rlx ls s v i) rd' t' T' /\ G2 ls k v (rlx ls s v i).x rd' /\ G3 ls v (q + 1) (rlx ls s v i).x := by
 have hL := lim_of hl hil;rw [rlx_eq hL];have same : (lb ls i = v ∨ s.x (lb ls i) <= s.x v + lw ls i) -> G3 ls v (q + 1) s.x := fun hh p hp i' hi' hne => by
  by_cases e : p = q
  ·subst e
   have : i' = i := by rw [hi] at hi'; omega
   subst this;rcases hh with hh | hh
   ·exact absurd hh hne
   ·exact hh
  ·exact h3 p (by omega) i' hi' hne
 by_cases c1 : lb ls i = v
 ·rw [if_pos c1]; exact ⟨rd, t, T, h, h2, same (.inl c1)⟩
 ·rw [if_neg c1]
  by_cases c2 : s.x v + lw ls i < s.x (lb ls i)
  ·rw [if_pos c2]
   have hav : la ls i = v := by
    rcases hn with hn | hn
    ·rw [hL.ea] at hn; omega
    ·rw [hL.eb] at hn; omega
   have hrv : k <= rd v + 1 := by
    rcases Nat.lt_or_ge (rd v + 1) k with e | e
    ·have := h.cl v hv (by omega) i hil hav; omega
    ·exact e
   have hb := hL.hb;have hle : s.x v + lw ls i <= s.x (lb ls i) := by omega
   refine ⟨W2 rd (lb ls i) k, W2 t (lb ls i) (T + 1), T + 1, ⟨fun b hb' hr => ?_, fun a => ?_, fun a => ?_, fun a ha hr => ?_, .inr ⟨lb ls i, hb, rfl, U2⟩, fun a ha hr => ?_⟩, fun a ha hr => ?_, fun p hp i' hi' hne => ?_⟩
   ·show Pq ls (W2 s.x (lb ls i) (s.x v + lw ls i)) (W2 t (lb ls i) (T + 1)) (W2 rd (lb ls i) k) (W2 s.c (lb ls i) (i, v, lb ls i, lw ls i) b) b
    by_cases e : b = lb ls i
    ·subst e
     rw [U2 (x := s.c)];show i < ls.length /\ la ls i = v /\ lb ls i = lb ls i /\ W2 s.x (lb ls i) (s.x v + lw ls i) v + lw ls i <= W2 s.x (lb ls i) (s.x v + lw ls i) (lb ls i) /\ (W2 s.x (lb ls i) (s.x v + lw ls i) v + lw ls i = W2 s.x (lb ls i) (s.x v + lw ls i) (lb ls i) -> W2 t (lb ls i) (T + 1) v < W2 t (lb ls i) (T + 1) (lb ls i)) /\ W2 rd (lb ls i) k (lb ls i) <= W2 rd (lb ls i) k v + 1;rw [V0 (x := s.x) (fun e => c1 e.symm), U2 (x := s.x), V0 (x := t) (fun e => c1 e.symm), U2 (x := t), U2 (x := rd), V0 (x := rd) (fun e => c1 e.symm)];exact ⟨hil, hav, rfl, Int.le_refl _, fun _ => by have := h.tT v; omega, hrv⟩
    ·rw [V0 (x := rd) e] at hr
     obtain ⟨p1, p2, p3, p4, p5, p6⟩ := h.par b hb' hr;rw [V0 (x := s.c) e];unfold Pq;rw [V0 (x := s.x) e, V0 (x := t) e, V0 (x := rd) e];by_cases e2 : (s.c b).2.1 = lb ls i
     ·refine ⟨p1, p2, p3, ?_⟩
      rw [e2] at p4 p5 p6 ⊢;rw [U2, U2, U2];have := h.rk b;exact ⟨by omega, fun q => by omega, by omega⟩
     ·rw [V0 (x := s.x) e2, V0 (x := t) e2, V0 (x := rd) e2]
      exact ⟨p1, p2, p3, p4, p5, p6⟩
   ·have := h.tT a
    by_cases e : a = lb ls i
    ·rw [e, U2]; exact Nat.le_refl _
    ·rw [V0 e]; omega
   ·have := h.rk a
    by_cases e : a = lb ls i
    ·rw [e, U2]; exact Nat.le_refl _
    ·rw [V0 e]; exact this
   ·by_cases e : a = lb ls i
    ·rw [e, U2] at hr; omega
    ·rw [V0 e] at hr
     exact low_cl (h.cl a ha hr) hle e
   ·show W2 s.x (lb ls i) (s.x v + lw ls i) a = 0
    by_cases e : a = lb ls i
    ·rw [e, U2] at hr; omega
    ·rw [V0 e] at hr ⊢
     exact h.zr a ha hr
   ·by_cases e : a = lb ls i
    ·rw [e, U2] at hr; omega
    ·rw [V0 e] at hr
     exact low_cl (h2 a ha hr) hle e
   ·show W2 s.x (lb ls i) (s.x v + lw ls i) (lb ls i') <= W2 s.x (lb ls i) (s.x v + lw ls i) v + lw ls i'
    rw [V0 (fun e => c1 e.symm)];by_cases e : p = q
    ·subst e
     have : i' = i := by rw [hi] at hi'; omega
     subst this;rw [U2]; exact Int.le_refl _
    ·have h4 := h3 p (by omega) i' hi' hne
     by_cases e2 : lb ls i' = lb ls i
     ·rw [e2, U2]; rw [e2] at h4; omega
     ·rw [V0 e2]; exact h4
  ·rw [if_neg c2]
   exact ⟨rd, t, T, h, h2, same (.inr (by omega))⟩
section
variable {X : FuncId -> List Value -> St -> (Value -> St -> Bool) -> Bool}
end
theorem Gh.rws {ls : List (List Int)} {M k v : Nat} {s : Fs} (hl : lmB (M : Int) ls = true) (hk : 0 < k) (hv : v < M + 1) (h : ∃ rd t T, Gh ls (M + 1) k s rd t T /\ G2 ls k v s.x rd) : ∀ {q : Nat}, q <= (nl ls ls.length v).length -> ∃ rd t T, Gh ls (M + 1) k (rwS ls s v q) rd t T /\ G2 ls k v (rwS ls s v q).x rd /\ G3 ls v q (rwS ls s v q).x
 | 0, _ => by
  obtain ⟨rd, t, T, h1, h2⟩ := h;exact ⟨rd, t, T, h1, h2, fun p hp => absurd hp (Nat.not_lt_zero p)⟩
 | q + 1, hq => by
  obtain ⟨rd, t, T, h1, h2, h3⟩ := Gh.rws hl hk hv h (q := q) (by omega);obtain ⟨i, hi, hil, hn⟩ := nl_mem (ls := ls) (v := v) (k := ls.length) (q := q) (by omega);have := Gh.step hl hk hv hi hil hn h1 h2 h3;have e : rwS ls s v (q + 1) = rlx ls (rwS ls s v q) v i := by
   show rlx ls (rwS ls s v q) v ((nl ls ls.length v).getD q 0).toNat = _;rw [hi, Int.toNat_natCast]
  rw [e];exact this
theorem cl_of {ls : List (List Int)} {M v : Nat} {x : Nat -> Int} (hl : lmB (M : Int) ls = true) (h : G3 ls v (nl ls ls.length v).length x) : Cl ls x v := by
 intro i hi ha;have hL := lim_of hl hi;obtain ⟨q, h1, h2⟩ := nl_has (ls := ls) (v := v) (i := i) (.inl (by rw [hL.ea, ha])) (k := ls.length) hi;exact h q h1 i h2 (fun e => hL.ne (by rw [ha, e]))
theorem Gh.lws {ls : List (List Int)} {M k : Nat} {s : Fs} (hl : lmB (M : Int) ls = true) (hk : 0 < k) (hF : ∀ v, v < M + 1 -> ¬ (lwS ls s v).x v = 1000000000) (h : ∃ rd t T, Gh ls (M + 1) k s rd t T) : ∀ {v : Nat}, v <= M + 1 -> ∃ rd t T, Gh ls (M + 1) k (lwS ls s v) rd t T /\ G2 ls k v (lwS ls s v).x rd
 | 0, _ => by
  obtain ⟨rd, t, T, h1⟩ := h;exact ⟨rd, t, T, h1, fun a ha => absurd ha (Nat.not_lt_zero a)⟩
 | v + 1, hv => by
  have ih := Gh.lws hl hk hF h (v := v) (by omega);rw [lws_go (hF v (by omega))];obtain ⟨rd, t, T, h1, h2, h3⟩ := Gh.rws hl hk (show v < M + 1 by omega) ih (Nat.le_refl _);refine ⟨rd, t, T, h1, fun a ha hr => ?_⟩;by_cases e : a = v
  ·rw [e]; exact cl_of hl h3
  ·exact h2 a (by omega) hr
theorem Gh.stl {ls : List (List Int)} {M : Nat} (hl : lmB (M : Int) ls = true) (h4 : ls.length <= 400) (hM : M <= 64) : ∀ {r : Nat}, r <= M + 1 -> ∃ rd t T, Gh ls (M + 1) r (stl ls (M + 1) r) rd t T /\ G2 ls r (M + 1) (stl ls (M + 1) r).x rd
 | 0, _ => ⟨fun _ => 0, fun _ => 0, 0, ⟨fun b _ hr => absurd hr (Nat.lt_irrefl 0), fun _ => Nat.le_refl _, fun _ => Nat.le_refl _, fun a _ hr => by omega, .inl rfl, fun a _ _ => rfl⟩, fun a _ hr => by omega⟩
 | r + 1, hr => by
  obtain ⟨rd, t, T, h1, h2⟩ := Gh.stl hl h4 hM (r := r) (by omega);have hI := Iv.st0 (Iv.stl hl h4 hM (r := r) (by omega));refine Gh.lws (s := Ev.st0 (Ev.stl ls (M + 1) r)) hl (Nat.succ_pos r) (fun v hv => ?_) ⟨rd, t, T, h1.par, h1.tT, fun a => by have := h1.rk a; omega, fun a ha hr => h2 a ha (by omega), .inl rfl, h1.zr⟩ (Nat.le_refl _);have := (Iv.lws hl h4 hI (v := v) (by omega)).bd v hv;omega
def sumC (ls : List (List Int)) (c : Nat -> Nat × Nat × Nat × Int) (a : Nat) : Nat -> Int
 | 0 => 0
 | d + 1 => sumC ls c a d + lw ls (c (itr c a d)).1
theorem chain_low {ls : List (List Int)} {c : Nat -> Nat × Nat × Nat × Int} {x : Nat -> Int} {t rd : Nat -> Nat} {a : Nat} (h : ∀ m, Pq ls x t rd (c (itr c a m)) (itr c a m)) : ∀ d, x (itr c a d) + sumC ls c a d <= x a /\ (x (itr c a d) + sumC ls c a d = x a -> t (itr c a d) + d <= t a)
 | 0 => ⟨by show x a + 0 <= x a; omega, fun _ => Nat.le_refl _⟩
 | d + 1 => by
  obtain ⟨h1, h2⟩ := chain_low h d;obtain ⟨_, _, _, h3, h4, _⟩ := h d;show x (c (itr c a d)).2.1 + (sumC ls c a d + lw ls (c (itr c a d)).1) <= x a /\ (x (c (itr c a d)).2.1 + (sumC ls c a d + lw ls (c (itr c a d)).1) = x a -> t (c (itr c a d)).2.1 + (d + 1) <= t a);refine ⟨by omega, fun e => ?_⟩;have e1 := h2 (by omega);have e2 := h4 (by omega);omega
theorem uns_par {ls : List (List Int)} {M l0 : Nat} (hl : lmB (M : Int) ls = true) (h4 : ls.length <= 400) (hM : M <= 64) (hl0 : l0 < M + 1) (he : (stl ls (M + 1) (M + 1)).l = (l0 : Int)) : ∃ rd t, ∀ m, Pq ls (stl ls (M + 1) (M + 1)).x t rd ((stl ls (M + 1) (M + 1)).c (itr (stl ls (M + 1) (M + 1)).c l0 m)) (itr (stl ls (M + 1) (M + 1)).c l0 m) := by
 obtain ⟨rd, t, T, h1, h2⟩ := Gh.stl hl h4 hM (r := M + 1) (Nat.le_refl _);have hc := (Iv.stl hl h4 hM (r := M + 1) (Nat.le_refl _)).par;refine ⟨rd, t, ?_⟩;have hr0 : rd l0 = M + 1 := by
  rcases h1.last with q | ⟨u, _, q, r⟩
  ·omega
  ·have : u = l0 := by omega
   rw [<- this]; exact r
 have hrd : ∀ j, j <= M + 1 -> M + 1 <= rd (itr (stl ls (M + 1) (M + 1)).c l0 j) + j := by
  intro j
  induction j with
  | zero => intro _; show M + 1 <= rd l0 + 0; omega
  | succ j ih =>
   intro hj;have ih := ih (by omega);obtain ⟨_, _, _, _, _, h6⟩ := h1.par _ (itr_lt hc hl0 j) (by omega);show M + 1 <= rd ((stl ls (M + 1) (M + 1)).c (itr (stl ls (M + 1) (M + 1)).c l0 j)).2.1 + (j + 1);omega
 obtain ⟨i, j, hij, hj, e⟩ := pigeon (M + 1) (itr (stl ls (M + 1) (M + 1)).c l0) (fun i _ => itr_lt hc hl0 i);have low : ∀ m, ∃ m', m' < M + 1 /\ itr (stl ls (M + 1) (M + 1)).c l0 m = itr (stl ls (M + 1) (M + 1)).c l0 m' := by
  intro m
  induction m using Nat.strongRecOn with
  | ind m ih =>
   by_cases q : m < M + 1
   ·exact ⟨m, q, rfl⟩
   ·obtain ⟨m', h5, h6⟩ := ih (i + (m - j)) (by omega)
    refine ⟨m', h5, ?_⟩;rw [<- h6, itr_add, e, <- itr_add, show j + (m - j) = m by omega]
 intro m;obtain ⟨m', h5, h6⟩ := low m;rw [h6];exact h1.par _ (itr_lt hc hl0 m') (by have := hrd m' (by omega); omega)
theorem uns_neg {ls : List (List Int)} {M l0 k : Nat} (hl : lmB (M : Int) ls = true) (h4 : ls.length <= 400) (hM : M <= 64) (hl0 : l0 < M + 1) (he : (stl ls (M + 1) (M + 1)).l = (l0 : Int))
 (hp : itr (stl ls (M + 1) (M + 1)).c (itr (stl ls (M + 1) (M + 1)).c l0 (M + 1)) (k + 1) = itr (stl ls (M + 1) (M + 1)).c l0 (M + 1)) :
 (∀ m, ((stl ls (M + 1) (M + 1)).c (itr (stl ls (M + 1) (M + 1)).c (itr (stl ls (M + 1) (M + 1)).c l0 (M + 1)) m)).1 < ls.length /\ lb ls ((stl ls (M + 1) (M + 1)).c (itr (stl ls (M + 1) (M + 1)).c (itr (stl ls (M + 1) (M + 1)).c l0 (M + 1)) m)).1 = itr (stl ls (M + 1) (M + 1)).c (itr (stl ls (M + 1) (M + 1)).c l0 (M + 1)) m /\ la ls ((stl ls (M + 1) (M + 1)).c (itr (stl ls (M + 1) (M + 1)).c (itr (stl ls (M + 1) (M + 1)).c l0 (M + 1)) m)).1 = itr (stl ls (M + 1) (M + 1)).c (itr (stl ls (M + 1) (M + 1)).c l0 (M + 1)) (m + 1)) /\
 sumC ls (stl ls (M + 1) (M + 1)).c (itr (stl ls (M + 1) (M + 1)).c l0 (M + 1)) (k + 1) < 0 := by
 obtain ⟨rd, t, h⟩ := uns_par hl h4 hM hl0 he;have h' : ∀ m, Pq ls (stl ls (M + 1) (M + 1)).x t rd ((stl ls (M + 1) (M + 1)).c (itr (stl ls (M + 1) (M + 1)).c (itr (stl ls (M + 1) (M + 1)).c l0 (M + 1)) m)) (itr (stl ls (M + 1) (M + 1)).c (itr (stl ls (M + 1) (M + 1)).c l0 (M + 1)) m) := fun m => by
  have := h (M + 1 + m);rw [itr_add] at this;exact this
 refine ⟨fun m => ⟨(h' m).1, (h' m).2.2.1, (h' m).2.1⟩, ?_⟩;obtain ⟨h5, h6⟩ := chain_low h' (k + 1);rw [hp] at h5 h6;by_cases q : sumC ls (stl ls (M + 1) (M + 1)).c (itr (stl ls (M + 1) (M + 1)).c l0 (M + 1)) (k + 1) = 0
 ·have := h6 (by omega)
  omega
 ·omega
section
variable {X : FuncId -> List Value -> St -> (Value -> St -> Bool) -> Bool}
end
theorem rlx_l {ls : List (List Int)} {M v i : Nat} {s : Fs} (h : Lim ls M i) (hl : (rlx ls s v i).l = -1) : rlx ls s v i = s /\ (lb ls i = v ∨ s.x (lb ls i) <= s.x v + lw ls i) := by
 rw [rlx_eq h] at hl ⊢;by_cases c1 : lb ls i = v
 ·rw [if_pos c1]; exact ⟨rfl, .inl c1⟩
 ·rw [if_neg c1] at hl ⊢
  by_cases c2 : s.x v + lw ls i < s.x (lb ls i)
  ·rw [if_pos c2] at hl
   have : ((lb ls i : Nat) : Int) = -1 := hl;omega
  ·rw [if_neg c2]; exact ⟨rfl, .inr (by omega)⟩
theorem rws_l {ls : List (List Int)} {M v : Nat} {s : Fs} (hl : lmB (M : Int) ls = true) : ∀ {q : Nat}, q <= (nl ls ls.length v).length -> (rwS ls s v q).l = -1 -> rwS ls s v q = s /\ G3 ls v q s.x
 | 0, _, _ => ⟨rfl, fun p hp => absurd hp (Nat.not_lt_zero p)⟩
 | q + 1, hq, h => by
  obtain ⟨i, hi, hil, hn⟩ := nl_mem (ls := ls) (v := v) (k := ls.length) (q := q) (by omega);have e : rwS ls s v (q + 1) = rlx ls (rwS ls s v q) v i := by
   show rlx ls (rwS ls s v q) v ((nl ls ls.length v).getD q 0).toNat = _;rw [hi, Int.toNat_natCast]
  rw [e] at h ⊢;obtain ⟨e2, h2⟩ := rlx_l (lim_of hl hil) h;rw [e2] at h ⊢;obtain ⟨e3, h3⟩ := rws_l hl (q := q) (by omega) h;rw [e3] at h2 ⊢;refine ⟨rfl, fun p hp i' hi' hne => ?_⟩;by_cases c : p = q
  ·subst c
   have : i' = i := by rw [hi] at hi'; omega
   subst this;rcases h2 with h2 | h2
   ·exact absurd h2 hne
   ·exact h2
  ·exact h3 p (by omega) i' hi' hne
theorem lws_l {ls : List (List Int)} {M : Nat} {s : Fs} (hl : lmB (M : Int) ls = true) : ∀ {v : Nat}, (lwS ls s v).l = -1 -> lwS ls s v = s /\ ∀ a, a < v -> ¬ s.x a = 1000000000 -> Cl ls s.x a
 | 0, _ => ⟨rfl, fun a ha => absurd ha (Nat.not_lt_zero a)⟩
 | v + 1, h => by
  by_cases c : (lwS ls s v).x v = 1000000000
  ·rw [lws_free c] at h ⊢
   obtain ⟨e, h2⟩ := lws_l hl h;rw [e] at c;refine ⟨e, fun a ha hf => ?_⟩;by_cases q : a = v
   ·rw [q] at hf; exact absurd c hf
   ·exact h2 a (by omega) hf
  ·rw [lws_go c] at h ⊢
   obtain ⟨e1, h1⟩ := rws_l hl (Nat.le_refl _) h;rw [e1] at h ⊢;obtain ⟨e, h2⟩ := lws_l hl h;rw [e] at h1 ⊢;refine ⟨rfl, fun a ha hf => ?_⟩;by_cases q : a = v
   ·rw [q]; exact cl_of hl h1
   ·exact h2 a (by omega) hf
theorem itr_root {ls : List (List Int)} {M : Nat} {c : Nat -> Nat × Nat × Nat × Int} {x : Nat -> Int} {t rd : Nat -> Nat} (hl : lmB (M : Int) ls = true) (hc : ∀ a, a < M + 1 -> (c a).2.1 < M + 1) (hz : ∀ a, a < M + 1 -> rd a = 0 -> x a = 0)
 (hp : ∀ b, b < M + 1 -> 0 < rd b -> Pq ls x t rd (c b) b) (hx : ∀ i, i < ls.length -> x (lb ls i) <= x (la ls i) + lw ls i) {v : Nat} (hv : v < M + 1) : -20000 * ((M : Int) + 1) <= x v := by
 have hw : ∀ i, i < ls.length -> -20000 <= lw ls i := fun i hi => by
  obtain ⟨u0, u1, y2, y3, e, hc⟩ := lm_row hl hi;have e3 : ls.getD i [] = [(u0 : Int), (u1 : Int), y2, y3] := by rw [List.getD_eq_getElem?_getD, e]; rfl
  have e2 : lw ls i = y2 := by unfold lw; rw [e3]; rfl
  omega
 have step : ∀ j, 0 < rd (itr c v j) -> t (itr c v (j + 1)) < t (itr c v j) /\ x (itr c v (j + 1)) - 20000 <= x (itr c v j) := fun j hj => by
  obtain ⟨h1, h2, h3, h4, h5, h6⟩ := hp _ (itr_lt hc hv j) hj;have h7 := hx _ h1;rw [h2, h3] at h7;have h8 := hw _ h1;exact ⟨h5 (by omega), by show x (c (itr c v j)).2.1 - 20000 <= _; omega⟩
 have down : ∀ j, (∀ i, i < j -> 0 < rd (itr c v i)) -> x (itr c v j) - 20000 * (j : Int) <= x v /\ ∀ i, i < j -> t (itr c v j) < t (itr c v i) := by
  intro j
  induction j with
  | zero => intro _; exact ⟨by show x v - 20000 * 0 <= x v; omega, fun i hi => absurd hi (Nat.not_lt_zero i)⟩
  | succ j ih =>
   intro h;obtain ⟨h1, h2⟩ := ih (fun i hi => h i (by omega));obtain ⟨h3, h4⟩ := step j (h j (by omega));refine ⟨by omega, fun i hi => ?_⟩;by_cases q : i = j
   ·rw [q]; exact h3
   ·have := h2 i (by omega); omega
 obtain ⟨i, j, hij, hj, e⟩ := pigeon (M + 1) (itr c v) (fun i _ => itr_lt hc hv i);have hex : ∃ k, k <= M + 1 /\ rd (itr c v k) = 0 /\ ∀ i, i < k -> 0 < rd (itr c v i) := by
  refine Classical.byContradiction (fun q => ?_);have all : ∀ k, k <= M + 1 -> 0 < rd (itr c v k) := by
   intro k
   induction k using Nat.strongRecOn with
   | ind k ih =>
    intro hk;refine Nat.pos_of_ne_zero (fun z => q ⟨k, hk, z, fun i hi => ih i hi (by omega)⟩)
  have := (down j (fun i hi => all i (by omega))).2 i hij;rw [e] at this;omega
 obtain ⟨k, h1, h2, h3⟩ := hex;have h4 := (down k h3).1;have h5 := hz _ (itr_lt hc hv k) h2;omega
theorem set_pt {ls : List (List Int)} {M : Nat} (hl : lmB (M : Int) ls = true) (h4 : ls.length <= 400) (hM : M <= 64) (h : ¬ Uns ls (M + 1)) : ∃ x : Nat -> Int, (∀ i, i < ls.length -> x (lb ls i) <= x (la ls i) + lw ls i) /\ ∀ a, a < M + 1 -> -1300000 <= x a /\ x a <= 0 := by
 have : ∃ r, r < M + 1 /\ (stl ls (M + 1) (r + 1)).l = -1 := by
  refine Classical.byContradiction (fun q => h (fun r hr e => q ⟨r, hr, e⟩))
 obtain ⟨r, hr, e⟩ := this;obtain ⟨e2, h2⟩ := lws_l (s := st0 (stl ls (M + 1) r)) hl e;have hI := Iv.stl hl h4 hM (r := r) (by omega);have hb := hI.bd;have hx : ∀ i, i < ls.length -> (stl ls (M + 1) r).x (lb ls i) <= (stl ls (M + 1) r).x (la ls i) + lw ls i := fun i hi => by
  have hL := lim_of hl hi;exact h2 (la ls i) hL.ha (by have := hb (la ls i) hL.ha; show ¬ (stl ls (M + 1) r).x (la ls i) = 1000000000; omega) i hi rfl
 obtain ⟨rd, t, T, g1, _⟩ := Gh.stl hl h4 hM (r := r) (by omega);refine ⟨(stl ls (M + 1) r).x, hx, fun a ha => ⟨?_, (hb a ha).2⟩⟩;have := itr_root hl hI.par g1.zr g1.par hx ha;omega
theorem pt_chain {ls : List (List Int)} {c : Nat -> Nat × Nat × Nat × Int} {x : Nat -> Int} {a : Nat} (hx : ∀ i, i < ls.length -> x (lb ls i) <= x (la ls i) + lw ls i) (h : ∀ m, (c (itr c a m)).1 < ls.length /\ lb ls (c (itr c a m)).1 = itr c a m /\ la ls (c (itr c a m)).1 = itr c a (m + 1)) : ∀ d, x a <= x (itr c a d) + sumC ls c a d
 | 0 => by show x a <= x a + 0; omega
 | d + 1 => by
  have ih := pt_chain hx h d;obtain ⟨h1, h2, h3⟩ := h d;have := hx _ h1;rw [h2, h3] at this;show x a <= x (itr c a (d + 1)) + (sumC ls c a d + lw ls (c (itr c a d)).1);omega
section
variable {X : FuncId -> List Value -> St -> (Value -> St -> Bool) -> Bool}
end
inductive Wk (ls : List (List Int)) : Nat -> Nat -> Int -> Prop where
 | nil {f : Nat} : Wk ls f f 0
 | step {f i : Nat} {w : Int} (hi : i < ls.length) (h : Wk ls f (la ls i) w) : Wk ls f (lb ls i) (w + lw ls i)
theorem Wk.pot {ls : List (List Int)} {y : Nat -> Int} (hy : ∀ i, i < ls.length -> y (lb ls i) <= y (la ls i) + lw ls i) {f a : Nat} {w : Int} (h : Wk ls f a w) : y a <= y f + w := by
 induction h with
 | nil => omega
 | step hi _ ih => have := hy _ hi; omega
def fcn (x : Nat -> Int) : Nat -> Int
 | 0 => 0
 | k + 1 => fcn x k + (if x k = 1000000000 then 0 else 1)
theorem cnt_bd {x : Nat -> Int} : ∀ {N : Nat}, 0 <= fcn x N /\ fcn x N <= N
 | 0 => ⟨Int.le_refl _, Int.le_refl _⟩
 | N + 1 => by
  have := cnt_bd (x := x) (N := N);show 0 <= fcn x N + (if x N = 1000000000 then 0 else 1) /\ fcn x N + (if x N = 1000000000 then 0 else 1) <= ((N + 1 : Nat) : Int);split <;> omega
theorem cnt_far {x : Nat -> Int} {b : Nat} {z : Int} : ∀ {N : Nat}, N <= b -> fcn (W2 x b z) N = fcn x N
 | 0, _ => rfl
 | N + 1, h => by
  show fcn (W2 x b z) N + (if W2 x b z N = 1000000000 then 0 else 1) = fcn x N + (if x N = 1000000000 then 0 else 1);rw [cnt_far (N := N) (by omega), V0 (show N ≠ b by omega)]
theorem cnt_upd {x : Nat -> Int} {b : Nat} {z : Int} (hz : ¬ z = 1000000000) : ∀ {N : Nat}, b < N -> fcn (W2 x b z) N = fcn x N + (if x b = 1000000000 then 1 else 0)
 | N + 1, h => by
  show fcn (W2 x b z) N + (if W2 x b z N = 1000000000 then 0 else 1) = fcn x N + (if x N = 1000000000 then 0 else 1) + _;by_cases q : b = N
  ·subst q
   rw [cnt_far (Nat.le_refl _), U2, if_neg hz];split <;> omega
  ·rw [cnt_upd hz (N := N) (by omega), V0 (show N ≠ b by omega)]; omega
def tot (x : Nat -> Int) : Nat -> Int
 | 0 => 0
 | k + 1 => tot x k + x k
theorem tot_far {x : Nat -> Int} {b : Nat} {z : Int} : ∀ {N : Nat}, N <= b -> tot (W2 x b z) N = tot x N
 | 0, _ => rfl
 | N + 1, h => by
  show tot (W2 x b z) N + W2 x b z N = tot x N + x N;rw [tot_far (N := N) (by omega), V0 (show N ≠ b by omega)]
theorem tot_upd {x : Nat -> Int} {b : Nat} {z : Int} : ∀ {N : Nat}, b < N -> tot (W2 x b z) N = tot x N + (z - x b)
 | N + 1, h => by
  show tot (W2 x b z) N + W2 x b z N = tot x N + x N + _;by_cases q : b = N
  ·subst q
   rw [tot_far (Nat.le_refl _), U2]; omega
  ·rw [tot_upd (N := N) (by omega), V0 (show N ≠ b by omega)]; omega
structure Dv (ls : List (List Int)) (N f : Nat) (s : Fs) : Prop where
 way : ∀ a, a < N -> ¬ s.x a = 1000000000 -> Wk ls f a (s.x a)
 up : ∀ a, a < N -> ¬ s.x a = 1000000000 -> s.x a <= 20000 * (fcn s.x N - 1)
 own : s.x f <= 0
 par : ∀ a, a < N -> (s.c a).2.1 < N
 last : s.l = -1 ∨ ∃ u : Nat, u < N /\ s.l = (u : Int)
theorem Dv.hi {ls : List (List Int)} {N f : Nat} {s : Fs} (h : Dv ls N f s) (hN : N <= 65) {a : Nat} (ha : a < N) : s.x a = 1000000000 ∨ s.x a <= 1280000 := by
 by_cases q : s.x a = 1000000000
 ·exact .inl q
 ·have := h.up a ha q
  have := (cnt_bd (x := s.x) (N := N)).2;exact .inr (by omega)
theorem Dv.lo {ls : List (List Int)} {M f : Nat} {s : Fs} {y : Nat -> Int} (hy : ∀ i, i < ls.length -> y (lb ls i) <= y (la ls i) + lw ls i) (hb : ∀ a, a < M + 1 -> -1300000 <= y a /\ y a <= 0) (hf : f < M + 1) (h : Dv ls (M + 1) f s) {a : Nat} (ha : a < M + 1) : -1300000 <= s.x a := by
 by_cases q : s.x a = 1000000000
 ·rw [q]; decide
 ·have h1 := (h.way a ha q).pot hy
  have h2 := hb a ha;have h3 := hb f hf;omega
theorem Dv.rlx {ls : List (List Int)} {M f v i : Nat} {s : Fs} (hl : lmB (M : Int) ls = true) (hM : M <= 64) (hi : i < ls.length) (hn : nam (ls.getD i []) v) (hv : v < M + 1) (hF : ¬ s.x v = 1000000000) (h : Dv ls (M + 1) f s) : Dv ls (M + 1) f (rlx ls s v i) /\ ¬ (Ev.rlx ls s v i).x v = 1000000000 /\ (Ev.rlx ls s v i = s ∨ tot (Ev.rlx ls s v i).x (M + 1) < tot s.x (M + 1)) := by
 have hL := lim_of hl hi;obtain ⟨u0, u1, y2, y3, e, hc⟩ := lm_row hl hi;have hw : -20000 <= lw ls i /\ lw ls i <= 20000 := by
  have e3 : ls.getD i [] = [(u0 : Int), (u1 : Int), y2, y3] := by rw [List.getD_eq_getElem?_getD, e]; rfl
  have e2 : lw ls i = y2 := by unfold lw; rw [e3]; rfl
  omega
 rw [rlx_eq hL];by_cases c1 : lb ls i = v
 ·rw [if_pos c1]; exact ⟨h, hF, .inl rfl⟩
 ·rw [if_neg c1]
  by_cases c2 : s.x v + lw ls i < s.x (lb ls i)
  ·rw [if_pos c2]
   have hav : la ls i = v := by
    rcases hn with hn | hn
    ·rw [hL.ea] at hn; omega
    ·rw [hL.eb] at hn; omega
   have hb := hL.hb;have hvu := (h.hi (by omega) hv).resolve_left hF;have hz : ¬ s.x v + lw ls i = 1000000000 := by omega
   have hcn := cnt_upd (x := s.x) hz hb;have hup := h.up v hv hF;refine ⟨⟨fun a ha hfa => ?_, fun a ha hfa => ?_, ?_, fun a ha => ?_, .inr ⟨lb ls i, hb, rfl⟩⟩, ?_, .inr ?_⟩
   ·show Wk ls f a (W2 s.x (lb ls i) (s.x v + lw ls i) a)
    by_cases q : a = lb ls i
    ·subst q
     rw [U2];have := h.way v hv hF;rw [<- hav] at this ⊢;exact .step hi this
    ·have hfa' : ¬ W2 s.x (lb ls i) (s.x v + lw ls i) a = 1000000000 := hfa
     rw [V0 q] at hfa' ⊢;exact h.way a ha hfa'
   ·show W2 s.x (lb ls i) (s.x v + lw ls i) a <= 20000 * (fcn (W2 s.x (lb ls i) (s.x v + lw ls i)) (M + 1) - 1)
    rw [hcn];by_cases q : a = lb ls i
    ·subst q
     rw [U2];by_cases q2 : s.x (lb ls i) = 1000000000
     ·rw [if_pos q2]; omega
     ·rw [if_neg q2]
      have := h.up (lb ls i) hb q2;omega
    ·have hfa' : ¬ W2 s.x (lb ls i) (s.x v + lw ls i) a = 1000000000 := hfa
     rw [V0 q] at hfa' ⊢;have := h.up a ha hfa';split <;> omega
   ·show W2 s.x (lb ls i) (s.x v + lw ls i) f <= 0
    have := h.own;by_cases q : f = lb ls i
    ·rw [q, U2]; rw [q] at this; omega
    ·rw [V0 q]; exact this
   ·show (W2 s.c (lb ls i) (i, v, lb ls i, lw ls i) a).2.1 < M + 1
    by_cases q : a = lb ls i
    ·rw [q, U2]; exact hv
    ·rw [V0 q]; exact h.par a ha
   ·show ¬ W2 s.x (lb ls i) (s.x v + lw ls i) v = 1000000000
    rw [V0 (fun q => c1 q.symm)]; exact hF
   ·show tot (W2 s.x (lb ls i) (s.x v + lw ls i)) (M + 1) < _
    rw [tot_upd hb]; omega
  ·rw [if_neg c2]; exact ⟨h, hF, .inl rfl⟩
theorem Dv.rws {ls : List (List Int)} {M f v : Nat} {s : Fs} (hl : lmB (M : Int) ls = true) (hM : M <= 64) (hv : v < M + 1) (hF : ¬ s.x v = 1000000000) (h : Dv ls (M + 1) f s) : ∀ {q : Nat}, q <= (nl ls ls.length v).length -> Dv ls (M + 1) f (rwS ls s v q) /\ ¬ (rwS ls s v q).x v = 1000000000 /\ (rwS ls s v q = s ∨ tot (rwS ls s v q).x (M + 1) < tot s.x (M + 1))
 | 0, _ => ⟨h, hF, .inl rfl⟩
 | q + 1, hq => by
  obtain ⟨h1, h2, h3⟩ := Dv.rws hl hM hv hF h (q := q) (by omega);obtain ⟨i, hi, hil, hn⟩ := nl_mem (ls := ls) (v := v) (k := ls.length) (q := q) (by omega);have e : rwS ls s v (q + 1) = Ev.rlx ls (rwS ls s v q) v i := by
   show Ev.rlx ls (rwS ls s v q) v ((nl ls ls.length v).getD q 0).toNat = _;rw [hi, Int.toNat_natCast]
  rw [e];obtain ⟨k1, k2, k3⟩ := Dv.rlx hl hM hil hn hv h2 h1;refine ⟨k1, k2, ?_⟩;rcases k3 with k3 | k3
  ·rw [k3]; exact h3
  ·rcases h3 with h3 | h3
   ·rw [h3] at k3 ⊢; exact .inr k3
   ·exact .inr (by omega)
theorem Dv.lws {ls : List (List Int)} {M f : Nat} {s : Fs} (hl : lmB (M : Int) ls = true) (hM : M <= 64) (h : Dv ls (M + 1) f s) : ∀ {v : Nat}, v <= M + 1 -> Dv ls (M + 1) f (lwS ls s v) /\ (lwS ls s v = s ∨ tot (lwS ls s v).x (M + 1) < tot s.x (M + 1))
 | 0, _ => ⟨h, .inl rfl⟩
 | v + 1, hv => by
  obtain ⟨h1, h2⟩ := Dv.lws hl hM h (v := v) (by omega);by_cases c : (lwS ls s v).x v = 1000000000
  ·rw [lws_free c]; exact ⟨h1, h2⟩
  ·rw [lws_go c]
   obtain ⟨k1, _, k3⟩ := Dv.rws hl hM (by omega) c h1 (Nat.le_refl _);refine ⟨k1, ?_⟩;rcases k3 with k3 | k3
   ·rw [k3]; exact h2
   ·rcases h2 with h2 | h2
    ·rw [h2] at k3 ⊢; exact .inr k3
    ·exact .inr (by omega)
theorem Dv.zero {ls : List (List Int)} {N f : Nat} (hf : f < N) : Dv ls N f ⟨W2 (fun _ => 1000000000) f 0, fun _ => (0, 0, 0, 0), -1⟩ := by
 have hc : ∀ k, k <= N -> fcn (W2 (fun _ => (1000000000 : Int)) f 0) k = if f < k then 1 else 0 := by
  intro k
  induction k with
  | zero => intro _; rfl
  | succ k ih =>
   intro hk;show fcn (W2 (fun _ => (1000000000 : Int)) f 0) k + (if W2 (fun _ => (1000000000 : Int)) f 0 k = 1000000000 then 0 else 1) = _;rw [ih (by omega)];by_cases q : k = f
   ·subst q
    rw [U2, if_neg (by omega), if_neg (by decide), if_pos (by omega)]; rfl
   ·rw [V0 q, if_pos rfl]
    by_cases q2 : f < k
    ·rw [if_pos q2, if_pos (by omega)]; rfl
    ·rw [if_neg q2, if_neg (by omega)]; rfl
 have hx : ∀ a, ¬ W2 (fun _ => (1000000000 : Int)) f 0 a = 1000000000 -> a = f := fun a h => by
  by_cases q : a = f
  ·exact q
  ·rw [V0 q] at h; exact absurd rfl h
 refine ⟨fun a _ h => ?_, fun a _ h => ?_, ?_, fun a ha => by show 0 < N; omega, .inl rfl⟩
 ·have := hx a h
  subst this;show Wk ls a a (W2 (fun _ => (1000000000 : Int)) a 0 a);rw [U2]; exact .nil
 ·have := hx a h
  subst this;show W2 (fun _ => (1000000000 : Int)) a 0 a <= 20000 * (fcn (W2 (fun _ => (1000000000 : Int)) a 0) N - 1);rw [U2, hc N (Nat.le_refl _), if_pos hf]; decide
 ·show W2 (fun _ => (1000000000 : Int)) f 0 f <= 0
  rw [U2]; decide
section
variable {X : FuncId -> List Value -> St -> (Value -> St -> Bool) -> Bool}
end
structure Dd (ls : List (List Int)) (N f : Nat) (x : Nat -> Int) : Prop where
 own : x f = 0
 way : ∀ a, a < N -> ¬ x a = 1000000000 -> Wk ls f a (x a)
 hi : ∀ a, a < N -> x a = 1000000000 ∨ x a <= 1280000
 fix : ∀ i, i < ls.length -> ¬ x (la ls i) = 1000000000 -> ¬ x (lb ls i) = 1000000000 /\ x (lb ls i) <= x (la ls i) + lw ls i
theorem dd_of {ls : List (List Int)} {M f : Nat} {s : Fs} {y : Nat -> Int} (hl : lmB (M : Int) ls = true) (hM : M <= 64) (hf : f < M + 1) (hy : ∀ i, i < ls.length -> y (lb ls i) <= y (la ls i) + lw ls i) (h : Dv ls (M + 1) f s) (he : (lwS ls (st0 s) (M + 1)).l = -1) : lwS ls (st0 s) (M + 1) = st0 s /\ Dd ls (M + 1) f s.x := by
 obtain ⟨e, hc⟩ := lws_l (s := st0 s) hl he;have hhi := fun a ha => h.hi (a := a) (by omega) ha
 have hff : ¬ s.x f = 1000000000 := by have := h.own; omega
 refine ⟨e, ⟨?_, h.way, hhi, fun i hi hfi => ?_⟩⟩
 ·have h1 := (h.way f hf hff).pot hy
  have h2 := h.own;omega
 ·have hL := lim_of hl hi
  have h1 : s.x (lb ls i) <= s.x (la ls i) + lw ls i := hc (la ls i) hL.ha hfi i hi rfl;have h2 := (hhi (la ls i) hL.ha).resolve_left hfi;obtain ⟨u0, u1, y2, y3, e3, hc3⟩ := lm_row hl hi;have e4 : ls.getD i [] = [(u0 : Int), (u1 : Int), y2, y3] := by rw [List.getD_eq_getElem?_getD, e3]; rfl
  have e5 : lw ls i = y2 := by unfold lw; rw [e4]; rfl
  exact ⟨by omega, h1⟩
theorem Dd.walk {ls : List (List Int)} {N f : Nat} {x : Nat -> Int} (h : Dd ls N f x) {a b : Nat} {w : Int} (hw : Wk ls a b w) (ha : ¬ x a = 1000000000) : ¬ x b = 1000000000 /\ x b <= x a + w := by
 induction hw with
 | nil => exact ⟨ha, by omega⟩
 | step hi _ ih =>
  obtain ⟨h1, h2⟩ := ih;obtain ⟨h3, h4⟩ := h.fix _ hi h1;exact ⟨h3, by omega⟩
def DT (ls : List (List Int)) (N : Nat) (D : Nat -> Nat -> Int) : Prop := ∀ f, f < N -> Dd ls N f (D f)
theorem DT.tri {ls : List (List Int)} {N : Nat} {D : Nat -> Nat -> Int} (h : DT ls N D) {a b c : Nat} (ha : a < N) (hb : b < N) (hc : c < N) (h1 : ¬ D a b = 1000000000) (h2 : ¬ D b c = 1000000000) : ¬ D a c = 1000000000 /\ D a c <= D a b + D b c := (h a ha).walk ((h b hb).way c hc h2) h1
def Pk (D : Nat -> Nat -> Int) (x : List Int) : Prop := ∀ i j, i < x.length -> j < x.length -> ¬ D i j = 1000000000 -> x.getD j 0 - x.getD i 0 <= D i j
def Lo (D : Nat -> Nat -> Int) (x : List Int) (k : Nat) (lo : Int) : Prop := (lo = -1000000000 /\ ∀ i, i < k -> D x.length i = 1000000000) ∨ (∃ i, i < k /\ ¬ D x.length i = 1000000000 /\ lo = x.getD i 0 - D x.length i) /\ ∀ i, i < k -> ¬ D x.length i = 1000000000 -> x.getD i 0 - D x.length i <= lo
def Hi (D : Nat -> Nat -> Int) (x : List Int) (k : Nat) (hi : Int) : Prop := (hi = 1000000000 /\ ∀ i, i < k -> D i x.length = 1000000000) ∨ (∃ i, i < k /\ ¬ D i x.length = 1000000000 /\ hi = x.getD i 0 + D i x.length) /\ ∀ i, i < k -> ¬ D i x.length = 1000000000 -> hi <= x.getD i 0 + D i x.length
theorem Lo.zero {D : Nat -> Nat -> Int} {x : List Int} : Lo D x 0 (-1000000000) := .inl ⟨rfl, fun i hi => absurd hi (Nat.not_lt_zero i)⟩
theorem Hi.zero {D : Nat -> Nat -> Int} {x : List Int} : Hi D x 0 1000000000 := .inl ⟨rfl, fun i hi => absurd hi (Nat.not_lt_zero i)⟩
theorem Lo.skip {D : Nat -> Nat -> Int} {x : List Int} {k : Nat} {lo : Int} (h : Lo D x k lo) (hd : D x.length k = 1000000000) : Lo D x (k + 1) lo := by
 rcases h with ⟨h1, h2⟩ | ⟨⟨i, h1, h2, h3⟩, h4⟩
 ·exact .inl ⟨h1, fun i hi => if e : i = k then e ▸ hd else h2 i (by omega)⟩
 ·exact .inr ⟨⟨i, by omega, h2, h3⟩, fun i hi hf => if e : i = k then absurd (e ▸ hd) hf else h4 i (by omega) hf⟩
theorem Hi.skip {D : Nat -> Nat -> Int} {x : List Int} {k : Nat} {hi : Int} (h : Hi D x k hi) (hd : D k x.length = 1000000000) : Hi D x (k + 1) hi := by
 rcases h with ⟨h1, h2⟩ | ⟨⟨i, h1, h2, h3⟩, h4⟩
 ·exact .inl ⟨h1, fun i hi => if e : i = k then e ▸ hd else h2 i (by omega)⟩
 ·exact .inr ⟨⟨i, by omega, h2, h3⟩, fun i hi hf => if e : i = k then absurd (e ▸ hd) hf else h4 i (by omega) hf⟩
theorem Lo.put {D : Nat -> Nat -> Int} {x : List Int} {k : Nat} {lo : Int} (h : Lo D x k lo) (hd : ¬ D x.length k = 1000000000) (hb : -1000000000 <= x.getD k 0 - D x.length k) : Lo D x (k + 1) (max lo (x.getD k 0 - D x.length k)) := by
 rcases h with ⟨h1, h2⟩ | ⟨⟨i, h1, h2, h3⟩, h4⟩
 ·refine .inr ⟨⟨k, by omega, hd, by omega⟩, fun i hi hf => ?_⟩
  by_cases e : i = k
  ·subst e; omega
  ·exact absurd (h2 i (by omega)) hf
 ·refine .inr ⟨?_, fun i hi hf => ?_⟩
  ·by_cases q : x.getD k 0 - D x.length k <= lo
   ·exact ⟨i, by omega, h2, by omega⟩
   ·exact ⟨k, by omega, hd, by omega⟩
  ·by_cases e : i = k
   ·subst e; omega
   ·have := h4 i (by omega) hf; omega
theorem Hi.put {D : Nat -> Nat -> Int} {x : List Int} {k : Nat} {hi : Int} (h : Hi D x k hi) (hd : ¬ D k x.length = 1000000000) (hb : x.getD k 0 + D k x.length <= 1000000000) : Hi D x (k + 1) (min hi (x.getD k 0 + D k x.length)) := by
 rcases h with ⟨h1, h2⟩ | ⟨⟨i, h1, h2, h3⟩, h4⟩
 ·refine .inr ⟨⟨k, by omega, hd, by omega⟩, fun i hi hf => ?_⟩
  by_cases e : i = k
  ·subst e; omega
  ·exact absurd (h2 i (by omega)) hf
 ·refine .inr ⟨?_, fun i hi hf => ?_⟩
  ·by_cases q : hi <= x.getD k 0 + D k x.length
   ·exact ⟨i, by omega, h2, by omega⟩
   ·exact ⟨k, by omega, hd, by omega⟩
  ·by_cases e : i = k
   ·subst e; omega
   ·have := h4 i (by omega) hf; omega
theorem lo_hi {ls : List (List Int)} {N : Nat} {D : Nat -> Nat -> Int} {x : List Int} {lo hi : Int} (hD : DT ls N D) (hN : x.length < N) (hP : Pk D x) (h1 : Lo D x x.length lo) (h2 : Hi D x x.length hi) (hl : ¬ lo = -1000000000) (hh : ¬ hi = 1000000000) : lo <= hi := by
 rcases h1 with ⟨q, _⟩ | ⟨⟨i, a1, a2, a3⟩, _⟩
 ·exact absurd q hl
 ·rcases h2 with ⟨q, _⟩ | ⟨⟨j, b1, b2, b3⟩, _⟩
  ·exact absurd q hh
  ·obtain ⟨t1, t2⟩ := hD.tri (a := j) (b := x.length) (c := i) (by omega) hN (by omega) b2 a2
   have := hP j i b1 a1 t1;omega
theorem Pk.add {ls : List (List Int)} {N : Nat} {D : Nat -> Nat -> Int} {x : List Int} {lo hi z : Int} (hD : DT ls N D) (hN : x.length < N) (hP : Pk D x) (h1 : Lo D x x.length lo) (h2 : Hi D x x.length hi) (hz : (lo = -1000000000 ∨ lo <= z) /\ (hi = 1000000000 ∨ z <= hi)) (hlo : ∀ i, i < x.length -> ¬ D x.length i = 1000000000 -> ¬ x.getD i 0 - D x.length i <= -1000000000) (hhi : ∀ i, i < x.length -> ¬ D i x.length = 1000000000 -> ¬ 1000000000 <= x.getD i 0 + D i x.length) : Pk D (x ++ [z]) := by
 have g1 : ∀ i, i < x.length -> (x ++ [z]).getD i 0 = x.getD i 0 := fun i hi => by rw [List.getD_eq_getElem?_getD, List.getElem?_append_left hi, <- List.getD_eq_getElem?_getD]
 have g2 : (x ++ [z]).getD x.length 0 = z := by rw [List.getD_eq_getElem?_getD, List.getElem?_append_right (Nat.le_refl _)]; simp
 intro i j hi' hj' hf;rw [List.length_append] at hi' hj';have hi' : i < x.length + 1 := hi';have hj' : j < x.length + 1 := hj';by_cases q1 : i = x.length
 ·subst q1
  rw [g2];by_cases q2 : j = x.length
  ·rw [q2, g2]
   have := (hD x.length hN).own;omega
  ·rw [g1 j (by omega)]
   rcases h1 with ⟨a, b⟩ | ⟨_, b⟩
   ·exact absurd (b j (by omega)) hf
   ·have h3 := b j (by omega) hf
    have h4 := hlo j (by omega) hf;rcases hz.1 with q | q <;> omega
 ·rw [g1 i (by omega)]
  by_cases q2 : j = x.length
  ·subst q2
   rw [g2];rcases h2 with ⟨a, b⟩ | ⟨_, b⟩
   ·exact absurd (b i (by omega)) hf
   ·have h3 := b i (by omega) hf
    have h4 := hhi i (by omega) hf;rcases hz.2 with q | q <;> omega
  ·rw [g1 j (by omega)]
   exact hP i j (by omega) (by omega) hf
section
variable {X : FuncId -> List Value -> St -> (Value -> St -> Bool) -> Bool}
end
set_option maxRecDepth 100000
theorem u_and : ∀ m : Nat, m <= 65 -> evBin Try.prog .and 123 0 (.int .u64 (m : Int)) (.int .u64 4294967295) = some (.int .u64 (m : Int))
 | 0, _ => by kernel_rfl
 | 1, _ => by kernel_rfl
 | 2, _ => by kernel_rfl
 | 3, _ => by kernel_rfl
 | 4, _ => by kernel_rfl
 | 5, _ => by kernel_rfl
 | 6, _ => by kernel_rfl
 | 7, _ => by kernel_rfl
 | 8, _ => by kernel_rfl
 | 9, _ => by kernel_rfl
 | 10, _ => by kernel_rfl
 | 11, _ => by kernel_rfl
 | 12, _ => by kernel_rfl
 | 13, _ => by kernel_rfl
 | 14, _ => by kernel_rfl
 | 15, _ => by kernel_rfl
 | 16, _ => by kernel_rfl
 | 17, _ => by kernel_rfl
 | 18, _ => by kernel_rfl
 | 19, _ => by kernel_rfl
 | 20, _ => by kernel_rfl
 | 21, _ => by kernel_rfl
 | 22, _ => by kernel_rfl
 | 23, _ => by kernel_rfl
 | 24, _ => by kernel_rfl
 | 25, _ => by kernel_rfl
 | 26, _ => by kernel_rfl
 | 27, _ => by kernel_rfl
 | 28, _ => by kernel_rfl
 | 29, _ => by kernel_rfl
 | 30, _ => by kernel_rfl
 | 31, _ => by kernel_rfl
 | 32, _ => by kernel_rfl
 | 33, _ => by kernel_rfl
 | 34, _ => by kernel_rfl
 | 35, _ => by kernel_rfl
 | 36, _ => by kernel_rfl
 | 37, _ => by kernel_rfl
 | 38, _ => by kernel_rfl
 | 39, _ => by kernel_rfl
 | 40, _ => by kernel_rfl
 | 41, _ => by kernel_rfl
 | 42, _ => by kernel_rfl
 | 43, _ => by kernel_rfl
 | 44, _ => by kernel_rfl
 | 45, _ => by kernel_rfl
 | 46, _ => by kernel_rfl
 | 47, _ => by kernel_rfl
 | 48, _ => by kernel_rfl
 | 49, _ => by kernel_rfl
 | 50, _ => by kernel_rfl
 | 51, _ => by kernel_rfl
 | 52, _ => by kernel_rfl
 | 53, _ => by kernel_rfl
 | 54, _ => by kernel_rfl
 | 55, _ => by kernel_rfl
 | 56, _ => by kernel_rfl
 | 57, _ => by kernel_rfl
 | 58, _ => by kernel_rfl
 | 59, _ => by kernel_rfl
 | 60, _ => by kernel_rfl
 | 61, _ => by kernel_rfl
 | 62, _ => by kernel_rfl
 | 63, _ => by kernel_rfl
 | 64, _ => by kernel_rfl
 | 65, _ => by kernel_rfl
 | n + 66, h => absurd h (by omega)
theorem u_shr : ∀ m : Nat, m <= 65 -> evBin Try.prog .shr 123 0 (.int .u64 (m : Int)) (.int .u64 32) = some (.int .u64 0)
 | 0, _ => by kernel_rfl
 | 1, _ => by kernel_rfl
 | 2, _ => by kernel_rfl
 | 3, _ => by kernel_rfl
 | 4, _ => by kernel_rfl
 | 5, _ => by kernel_rfl
 | 6, _ => by kernel_rfl
 | 7, _ => by kernel_rfl
 | 8, _ => by kernel_rfl
 | 9, _ => by kernel_rfl
 | 10, _ => by kernel_rfl
 | 11, _ => by kernel_rfl
 | 12, _ => by kernel_rfl
 | 13, _ => by kernel_rfl
 | 14, _ => by kernel_rfl
 | 15, _ => by kernel_rfl
 | 16, _ => by kernel_rfl
 | 17, _ => by kernel_rfl
 | 18, _ => by kernel_rfl
 | 19, _ => by kernel_rfl
 | 20, _ => by kernel_rfl
 | 21, _ => by kernel_rfl
 | 22, _ => by kernel_rfl
 | 23, _ => by kernel_rfl
 | 24, _ => by kernel_rfl
 | 25, _ => by kernel_rfl
 | 26, _ => by kernel_rfl
 | 27, _ => by kernel_rfl
 | 28, _ => by kernel_rfl
 | 29, _ => by kernel_rfl
 | 30, _ => by kernel_rfl
 | 31, _ => by kernel_rfl
 | 32, _ => by kernel_rfl
 | 33, _ => by kernel_rfl
 | 34, _ => by kernel_rfl
 | 35, _ => by kernel_rfl
 | 36, _ => by kernel_rfl
 | 37, _ => by kernel_rfl
 | 38, _ => by kernel_rfl
 | 39, _ => by kernel_rfl
 | 40, _ => by kernel_rfl
 | 41, _ => by kernel_rfl
 | 42, _ => by kernel_rfl
 | 43, _ => by kernel_rfl
 | 44, _ => by kernel_rfl
 | 45, _ => by kernel_rfl
 | 46, _ => by kernel_rfl
 | 47, _ => by kernel_rfl
 | 48, _ => by kernel_rfl
 | 49, _ => by kernel_rfl
 | 50, _ => by kernel_rfl
 | 51, _ => by kernel_rfl
 | 52, _ => by kernel_rfl
 | 53, _ => by kernel_rfl
 | 54, _ => by kernel_rfl
 | 55, _ => by kernel_rfl
 | 56, _ => by kernel_rfl
 | 57, _ => by kernel_rfl
 | 58, _ => by kernel_rfl
 | 59, _ => by kernel_rfl
 | 60, _ => by kernel_rfl
 | 61, _ => by kernel_rfl
 | 62, _ => by kernel_rfl
 | 63, _ => by kernel_rfl
 | 64, _ => by kernel_rfl
 | 65, _ => by kernel_rfl
 | n + 66, h => absurd h (by omega)
theorem u_mul1 : ∀ m : Nat, m <= 65 -> evBin Try.prog .mul 123 0 (.int .u64 1) (.int .u64 (m : Int)) = some (.int .u64 (m : Int))
 | 0, _ => by kernel_rfl
 | 1, _ => by kernel_rfl
 | 2, _ => by kernel_rfl
 | 3, _ => by kernel_rfl
 | 4, _ => by kernel_rfl
 | 5, _ => by kernel_rfl
 | 6, _ => by kernel_rfl
 | 7, _ => by kernel_rfl
 | 8, _ => by kernel_rfl
 | 9, _ => by kernel_rfl
 | 10, _ => by kernel_rfl
 | 11, _ => by kernel_rfl
 | 12, _ => by kernel_rfl
 | 13, _ => by kernel_rfl
 | 14, _ => by kernel_rfl
 | 15, _ => by kernel_rfl
 | 16, _ => by kernel_rfl
 | 17, _ => by kernel_rfl
 | 18, _ => by kernel_rfl
 | 19, _ => by kernel_rfl
 | 20, _ => by kernel_rfl
 | 21, _ => by kernel_rfl
 | 22, _ => by kernel_rfl
 | 23, _ => by kernel_rfl
 | 24, _ => by kernel_rfl
 | 25, _ => by kernel_rfl
 | 26, _ => by kernel_rfl
 | 27, _ => by kernel_rfl
 | 28, _ => by kernel_rfl
 | 29, _ => by kernel_rfl
 | 30, _ => by kernel_rfl
 | 31, _ => by kernel_rfl
 | 32, _ => by kernel_rfl
 | 33, _ => by kernel_rfl
 | 34, _ => by kernel_rfl
 | 35, _ => by kernel_rfl
 | 36, _ => by kernel_rfl
 | 37, _ => by kernel_rfl
 | 38, _ => by kernel_rfl
 | 39, _ => by kernel_rfl
 | 40, _ => by kernel_rfl
 | 41, _ => by kernel_rfl
 | 42, _ => by kernel_rfl
 | 43, _ => by kernel_rfl
 | 44, _ => by kernel_rfl
 | 45, _ => by kernel_rfl
 | 46, _ => by kernel_rfl
 | 47, _ => by kernel_rfl
 | 48, _ => by kernel_rfl
 | 49, _ => by kernel_rfl
 | 50, _ => by kernel_rfl
 | 51, _ => by kernel_rfl
 | 52, _ => by kernel_rfl
 | 53, _ => by kernel_rfl
 | 54, _ => by kernel_rfl
 | 55, _ => by kernel_rfl
 | 56, _ => by kernel_rfl
 | 57, _ => by kernel_rfl
 | 58, _ => by kernel_rfl
 | 59, _ => by kernel_rfl
 | 60, _ => by kernel_rfl
 | 61, _ => by kernel_rfl
 | 62, _ => by kernel_rfl
 | 63, _ => by kernel_rfl
 | 64, _ => by kernel_rfl
 | 65, _ => by kernel_rfl
 | n + 66, h => absurd h (by omega)
theorem u_mul0 : ∀ m : Nat, m <= 65 -> evBin Try.prog .mul 123 0 (.int .u64 0) (.int .u64 (m : Int)) = some (.int .u64 0)
 | 0, _ => by kernel_rfl
 | 1, _ => by kernel_rfl
 | 2, _ => by kernel_rfl
 | 3, _ => by kernel_rfl
 | 4, _ => by kernel_rfl
 | 5, _ => by kernel_rfl
 | 6, _ => by kernel_rfl
 | 7, _ => by kernel_rfl
 | 8, _ => by kernel_rfl
 | 9, _ => by kernel_rfl
 | 10, _ => by kernel_rfl
 | 11, _ => by kernel_rfl
 | 12, _ => by kernel_rfl
 | 13, _ => by kernel_rfl
 | 14, _ => by kernel_rfl
 | 15, _ => by kernel_rfl
 | 16, _ => by kernel_rfl
 | 17, _ => by kernel_rfl
 | 18, _ => by kernel_rfl
 | 19, _ => by kernel_rfl
 | 20, _ => by kernel_rfl
 | 21, _ => by kernel_rfl
 | 22, _ => by kernel_rfl
 | 23, _ => by kernel_rfl
 | 24, _ => by kernel_rfl
 | 25, _ => by kernel_rfl
 | 26, _ => by kernel_rfl
 | 27, _ => by kernel_rfl
 | 28, _ => by kernel_rfl
 | 29, _ => by kernel_rfl
 | 30, _ => by kernel_rfl
 | 31, _ => by kernel_rfl
 | 32, _ => by kernel_rfl
 | 33, _ => by kernel_rfl
 | 34, _ => by kernel_rfl
 | 35, _ => by kernel_rfl
 | 36, _ => by kernel_rfl
 | 37, _ => by kernel_rfl
 | 38, _ => by kernel_rfl
 | 39, _ => by kernel_rfl
 | 40, _ => by kernel_rfl
 | 41, _ => by kernel_rfl
 | 42, _ => by kernel_rfl
 | 43, _ => by kernel_rfl
 | 44, _ => by kernel_rfl
 | 45, _ => by kernel_rfl
 | 46, _ => by kernel_rfl
 | 47, _ => by kernel_rfl
 | 48, _ => by kernel_rfl
 | 49, _ => by kernel_rfl
 | 50, _ => by kernel_rfl
 | 51, _ => by kernel_rfl
 | 52, _ => by kernel_rfl
 | 53, _ => by kernel_rfl
 | 54, _ => by kernel_rfl
 | 55, _ => by kernel_rfl
 | 56, _ => by kernel_rfl
 | 57, _ => by kernel_rfl
 | 58, _ => by kernel_rfl
 | 59, _ => by kernel_rfl
 | 60, _ => by kernel_rfl
 | 61, _ => by kernel_rfl
 | 62, _ => by kernel_rfl
 | 63, _ => by kernel_rfl
 | 64, _ => by kernel_rfl
 | 65, _ => by kernel_rfl
 | n + 66, h => absurd h (by omega)
theorem u_conv : ∀ m : Nat, m <= 65 -> ev1 Try.prog (convert 3 108) (.int .i64 (m : Int)) = some (.int .u64 (m : Int))
 | 0, _ => by kernel_rfl
 | 1, _ => by kernel_rfl
 | 2, _ => by kernel_rfl
 | 3, _ => by kernel_rfl
 | 4, _ => by kernel_rfl
 | 5, _ => by kernel_rfl
 | 6, _ => by kernel_rfl
 | 7, _ => by kernel_rfl
 | 8, _ => by kernel_rfl
 | 9, _ => by kernel_rfl
 | 10, _ => by kernel_rfl
 | 11, _ => by kernel_rfl
 | 12, _ => by kernel_rfl
 | 13, _ => by kernel_rfl
 | 14, _ => by kernel_rfl
 | 15, _ => by kernel_rfl
 | 16, _ => by kernel_rfl
 | 17, _ => by kernel_rfl
 | 18, _ => by kernel_rfl
 | 19, _ => by kernel_rfl
 | 20, _ => by kernel_rfl
 | 21, _ => by kernel_rfl
 | 22, _ => by kernel_rfl
 | 23, _ => by kernel_rfl
 | 24, _ => by kernel_rfl
 | 25, _ => by kernel_rfl
 | 26, _ => by kernel_rfl
 | 27, _ => by kernel_rfl
 | 28, _ => by kernel_rfl
 | 29, _ => by kernel_rfl
 | 30, _ => by kernel_rfl
 | 31, _ => by kernel_rfl
 | 32, _ => by kernel_rfl
 | 33, _ => by kernel_rfl
 | 34, _ => by kernel_rfl
 | 35, _ => by kernel_rfl
 | 36, _ => by kernel_rfl
 | 37, _ => by kernel_rfl
 | 38, _ => by kernel_rfl
 | 39, _ => by kernel_rfl
 | 40, _ => by kernel_rfl
 | 41, _ => by kernel_rfl
 | 42, _ => by kernel_rfl
 | 43, _ => by kernel_rfl
 | 44, _ => by kernel_rfl
 | 45, _ => by kernel_rfl
 | 46, _ => by kernel_rfl
 | 47, _ => by kernel_rfl
 | 48, _ => by kernel_rfl
 | 49, _ => by kernel_rfl
 | 50, _ => by kernel_rfl
 | 51, _ => by kernel_rfl
 | 52, _ => by kernel_rfl
 | 53, _ => by kernel_rfl
 | 54, _ => by kernel_rfl
 | 55, _ => by kernel_rfl
 | 56, _ => by kernel_rfl
 | 57, _ => by kernel_rfl
 | 58, _ => by kernel_rfl
 | 59, _ => by kernel_rfl
 | 60, _ => by kernel_rfl
 | 61, _ => by kernel_rfl
 | 62, _ => by kernel_rfl
 | 63, _ => by kernel_rfl
 | 64, _ => by kernel_rfl
 | 65, _ => by kernel_rfl
 | n + 66, h => absurd h (by omega)
theorem i_conv : ∀ m : Nat, m <= 65 -> ev1 Try.prog (convert 108 3) (.int .u64 (m : Int)) = some (.int .i64 (m : Int))
 | 0, _ => by kernel_rfl
 | 1, _ => by kernel_rfl
 | 2, _ => by kernel_rfl
 | 3, _ => by kernel_rfl
 | 4, _ => by kernel_rfl
 | 5, _ => by kernel_rfl
 | 6, _ => by kernel_rfl
 | 7, _ => by kernel_rfl
 | 8, _ => by kernel_rfl
 | 9, _ => by kernel_rfl
 | 10, _ => by kernel_rfl
 | 11, _ => by kernel_rfl
 | 12, _ => by kernel_rfl
 | 13, _ => by kernel_rfl
 | 14, _ => by kernel_rfl
 | 15, _ => by kernel_rfl
 | 16, _ => by kernel_rfl
 | 17, _ => by kernel_rfl
 | 18, _ => by kernel_rfl
 | 19, _ => by kernel_rfl
 | 20, _ => by kernel_rfl
 | 21, _ => by kernel_rfl
 | 22, _ => by kernel_rfl
 | 23, _ => by kernel_rfl
 | 24, _ => by kernel_rfl
 | 25, _ => by kernel_rfl
 | 26, _ => by kernel_rfl
 | 27, _ => by kernel_rfl
 | 28, _ => by kernel_rfl
 | 29, _ => by kernel_rfl
 | 30, _ => by kernel_rfl
 | 31, _ => by kernel_rfl
 | 32, _ => by kernel_rfl
 | 33, _ => by kernel_rfl
 | 34, _ => by kernel_rfl
 | 35, _ => by kernel_rfl
 | 36, _ => by kernel_rfl
 | 37, _ => by kernel_rfl
 | 38, _ => by kernel_rfl
 | 39, _ => by kernel_rfl
 | 40, _ => by kernel_rfl
 | 41, _ => by kernel_rfl
 | 42, _ => by kernel_rfl
 | 43, _ => by kernel_rfl
 | 44, _ => by kernel_rfl
 | 45, _ => by kernel_rfl
 | 46, _ => by kernel_rfl
 | 47, _ => by kernel_rfl
 | 48, _ => by kernel_rfl
 | 49, _ => by kernel_rfl
 | 50, _ => by kernel_rfl
 | 51, _ => by kernel_rfl
 | 52, _ => by kernel_rfl
 | 53, _ => by kernel_rfl
 | 54, _ => by kernel_rfl
 | 55, _ => by kernel_rfl
 | 56, _ => by kernel_rfl
 | 57, _ => by kernel_rfl
 | 58, _ => by kernel_rfl
 | 59, _ => by kernel_rfl
 | 60, _ => by kernel_rfl
 | 61, _ => by kernel_rfl
 | 62, _ => by kernel_rfl
 | 63, _ => by kernel_rfl
 | 64, _ => by kernel_rfl
 | 65, _ => by kernel_rfl
 | n + 66, h => absurd h (by omega)
def rr (z : Int) (m k : Nat) : List Int := List.replicate k z ++ List.replicate (m - k) 0
theorem rr_len {z : Int} {m k : Nat} (h : k <= m) : (rr z m k).length = m := by simp [rr]; omega
theorem rr_all {z : Int} {m : Nat} : rr z m m = List.replicate m z := by simp [rr]
theorem rr_step {z : Int} {m k j : Nat} (h : k + j <= m) : over (ints (rr z m k)) k (ints (List.replicate j z)) = ints (rr z m (k + j)) := by
 unfold over ints rr;rw [<- List.map_take, <- List.map_drop, <- List.map_append, <- List.map_append]
 congr 1
 rw [List.length_map, List.length_replicate, List.take_left' (by simp), List.drop_append, List.drop_eq_nil_of_le (by simp), List.nil_append, List.drop_replicate, List.length_replicate, <- List.replicate_append_replicate];rw [show m - k - (k + j - k) = m - (k + j) by omega]
theorem rr_zero {z : Int} {m : Nat} : List.replicate m 0 = rr z m 0 := by simp [rr]
theorem seg_some {l : List Value} {j : Nat} (h : j <= l.length) : ∀ {i : Nat}, i + j <= l.length -> segL l i j = some ((l.drop i).take j) := by
 induction j with
 | zero => intro i _; simp [segL]
 | succ j ih =>
  intro i hi;have h1 : i < l.length := by omega
  unfold segL;rw [List.getElem?_eq_getElem h1, ih (by omega) (i := i + 1) (by omega), List.drop_eq_getElem_cons h1];rfl
theorem rr_seg {z : Int} {m k j : Nat} (hj : j <= k) (hk : k <= m) : segL (ints (rr z m k)) 0 (ints (List.replicate j z)).length = some (ints (List.replicate j z)) := by
 rw [ints_len, List.length_replicate, seg_some (by rw [ints_len, rr_len hk]; omega) (by rw [ints_len, rr_len hk]; omega)];unfold ints rr;rw [List.drop_zero, <- List.map_take, List.take_append_of_le_length (by simpa using hj), List.take_replicate, Nat.min_eq_left hj]
section
variable {X : FuncId -> List Value -> St -> (Value -> St -> Bool) -> Bool}
theorem Mul64_s (n : Nat) (m : Nat) (s : St) (hs : Wf s) (hm : m <= 65) : Spec Try.prog (tabK tabw) X (n + 100) 87 [.int .u64 1, .int .u64 (m : Int)] s (fun v A => v = .tuple #[.int .u64 0, .int .u64 (m : Int)] /\ A = []) := by
 refine enter bw87_at rfl hs ?_;unfold bw87;refine rS (kM J J (kM J J (Q0 (rS (kM J J (kO J (a_bin (r := .int .u64 1) J J (by kernel_rfl) (kM J J (Q0 (rS (kM J J (kO J (a_bin (r := .int .u64 0) J J (by kernel_rfl) (kM J J (Q0 (rS (kM J J (kO J (a_bin J J (u_and m hm) (kM J J (Q0 (rS (kM J J (kO J (a_bin J J (u_shr m hm) (kM J J (Q0 ?_)))))))))))))))))))))))))));refine rS (kM J J (kM J J (kO J (a_bin J J (u_mul1 m hm) (kM J J (Q0 (rS (kM J J (kM J J (kO J (a_bin J J (u_mul0 m hm) (kM J J (kO J (a_bin J J (u_shr m hm) (kO J (a_bin (r := .int .u64 0) J J (by kernel_rfl) (kM J J (Q0 (rS (kM J J (kO J (a_bin (r := .int .u64 0) J J (by kernel_rfl) (kM J J (Q0 (rS (kM J J (kO J (a_bin (r := .int .u64 0) J J (by kernel_rfl) (kM J J ?_)))))))))))))))))))))))))))));refine Q0 (rS (kM J J (kM J J (kM J J (kO J (a_bin (r := .int .u64 0) J J (by kernel_rfl) (kO J (a_bin (r := .int .u64 0) J J (by kernel_rfl) (kM J J (Q0 (rS (kM J J (kM J J (kO J (a_bin (r := .int .u64 0) J J (by kernel_rfl) (kM J J (kO J (a_bin (r := .int .u64 0) J J (by kernel_rfl) (kM J J (kO J (a_bin (r := .int .u64 0) J J (by kernel_rfl) (kO J (a_bin (r := .int .u64 0) J J (by kernel_rfl) (kM J J (Q0 (rS (kM J J (kM J J (kO J (a_bin J J (u_mul1 m hm) ?_))))))))))))))))))))))))))))));refine kM J J (Q0 (Y3 ?_));exact end2 J J ⟨rfl, rfl⟩
theorem Mul_s (n : Nat) (m : Nat) (s : St) (hs : Wf s) (hm : m <= 65) : Spec Try.prog (tabK tabw) X (n + 150) 78 [.int .u64 1, .int .u64 (m : Int)] s (fun v A => v = .tuple #[.int .u64 0, .int .u64 (m : Int)] /\ A = []) := by
 refine enter bw78_at rfl hs ?_;unfold bw78;refine rS (kM J J (kM J J (Q0 (rQ (Z0 J (Q1 (W0 (rS (kM J J (kM J J (kO J (a_callV J J (fun s1 h1 => Mul64_s _ m s1 h1.wf (by omega)) (kM J J (kO J (Q2 J J (kO J (Q2 J J (kM J J (kM J J (Q0 (rS (kM J J (kM J J (kM J J (kM J J (Q0 ?_))))))))))))))))))))))))));refine Y3 ?_;exact end2 J J ⟨rfl, rfl⟩
theorem Repeat_s (n : Nat) (b0 : Nat) (z : Int) (m : Nat) (s : St) (hs : Wf s) (hn : 281474976710656 <= n) (hz : Ats s b0 0 [.int .i64 z]) (hm : 1 <= m /\ m <= 65) : Spec Try.prog (tabK tabw) X (n + 500) 62 [.slice (some ⟨b0, 0, none⟩) 1 1, .int .i64 (m : Int)] s (fun v A => ∃ b, v = .slice (some ⟨b, 0, none⟩) m m /\ A = [.row b 3 false (ints (List.replicate m z))]) := by
 refine enter bw62_at rfl hs ?_;unfold bw62;refine rS (kM J J (Q0 (rQ (rS (kM J J (kO J (V5 J J (fun h1 => ?_) (fun h1 => ?_))))))))
 ·exfalso; omega
 ·refine Q0 (Z0 J (Q1 (W0 (rS (kM J J (kO J (a_lenx J (fun b hb => by cases hb; rfl) (kO J (a_conv (r := .int .u64 1) J (by kernel_rfl) (kM J J (kO J (a_conv J (u_conv m (by omega)) (kO J (a_callV J J (fun s1 h1 => Mul_s _ m s1 h1.wf (by omega)) (kM J J (kO J (Q2 J J (kO J (Q2 J J (kM J J (kM J J (Q0 (rQ (rS (kM J J (kO J (a_gtr J J (fun h => absurd h (by decide)) (fun _ => (kM J J (kG J J (W3 J (kG J J (a_gtr J J (fun h3 => ?_) (fun h3 => ?_))))))))))))))))))))))))))))))))))
  ·exfalso; omega
  ·refine kO J (V1 J J J (Q0 (Z0 J (Q1 (W0 (rS (kM J J (kO J (a_conv J (i_conv m (by omega)) (kO J (a_mksI (m := m) (c := m) J J (by omega) (by omega) (by omega) (fun b4 => (kM J J (Q0 (rS (kM J J (kM J J ?_)))))))))))))))))
   rw [rr_zero (z := z)];refine kO J (a_copy1 (j := 1) (more := ints (List.replicate 1 z)) (off := 0) J J (by rw [if_pos (by omega)]) (by decide) (by simp [ints]) (.inr hz) .here (by rw [ints_len, rr_len (Nat.zero_le _)]; omega) ?_);rw [show over (ints (rr z m 0)) 0 (ints (List.replicate 1 z)) = ints (rr z m 1) from rr_step (by omega)];refine kM J J (Q0 (rQ (Y1 (Y5 (fun j e A => ∃ (k : Nat), e = [(7, .slice (some ⟨b4, 0, none⟩) m m), (8, .int .i64 (k : Int))] /\ A = (.row b4 3 false (ints (rr z m k)) :: []) /\ j = m - k /\ k <= m /\ 1 <= k) 100 0 281474976710656 ?_ (j := _) (env2 := _) (A2 := _) ?_ ?_ ?_ ?_ ⟨1, rfl, rfl, rfl, (by omega), (Nat.le_refl _)⟩))))
   rotate_left
   ·omega
   ·omega
   ·exact (lc 7 J (lc 8 J Less.nil))
   ·exact (.q .slnil)
   rintro n hn j _ _ ⟨k, rfl, rfl, rfl, hk, hk1⟩;have hmn : min k (m - k) <= k := by omega
   have hmn2 : k + min k (m - k) <= m := by omega
   refine rQ (rS (kM J J (kM J J (kO J (a_len J (kO J (V5 J J (fun h5 => ?_) (fun h5 => ?_))))))))
   ·refine Q0 (Y0 J (Q1 (W0 (Y1 (rI (kM J J (kM J J (kM J J (kO J (a_slcF (l := k) J J J (by omega) (Nat.le_refl _) (by omega) (by show m < 18446744073709551616; omega) (kM J J (kM J J (kO J (a_slcT (h := k) J J J (by omega) (by show m < 18446744073709551616; omega) (kO J (a_copy1 (j := min k (m - k)) (more := ints (List.replicate (min k (m - k)) z)) J J (by rw [Nat.min_def]) (by omega) (by simp [ints]) (.inl ⟨_, _, _, .here, rr_seg hmn hk⟩) .here (by rw [ints_len, rr_len hk]; omega) (kO J (V3 J J (by omega) (kM J J (Q0 (U1 (W0 ?_))))))))))))))))))))))
    exact ⟨rfl, _, _, _, (show m - (k + min k (m - k)) < m - k by omega), (lc 7 J (lc 8 J Less.nil)), (.q .slnil), ⟨k + min k (m - k), rfl, (by rw [Nat.zero_add, Nat.mul_one, rr_step hmn2]), rfl, by omega, by omega⟩⟩
   ·refine Q0 (Z0 J (Q5 (Q3 (Q3 (Z3 (W0 (rS (kM J J (kM J J (Q0 (Y3 ?_)))))))))))
    have hkm : k = m := by omega
    subst hkm;rw [rr_all];exact end1A J (.q .slnil) ⟨_, rfl, rfl⟩
end
theorem Dv.st0 {ls : List (List Int)} {N f : Nat} {g : Fs} (h : Dv ls N f g) : Dv ls N f (st0 g) := ⟨h.way, h.up, h.own, h.par, .inl rfl⟩
theorem Dv.tot_hi {ls : List (List Int)} {N f : Nat} {g : Fs} (h : Dv ls N f g) (hN : N <= 65) : tot g.x N <= 1000000000 * N := by
 have key : ∀ k, k <= N -> tot g.x k <= 1000000000 * k := by
  intro k
  induction k with
  | zero => intro _; show (0 : Int) <= _; omega
  | succ k ih =>
   intro hk;have h1 := ih (by omega);have h2 := h.hi hN (a := k) (by omega);show tot g.x k + g.x k <= _;omega
 exact key N (Nat.le_refl _)
theorem Dv.tot_lo {ls : List (List Int)} {M f : Nat} {g : Fs} {y : Nat -> Int} (h : Dv ls (M + 1) f g) (hy : ∀ i, i < ls.length -> y (lb ls i) <= y (la ls i) + lw ls i) (hb : ∀ a, a < M + 1 -> -1300000 <= y a /\ y a <= 0) (hf : f < M + 1) : -1300000 * ((M + 1 : Nat) : Int) <= tot g.x (M + 1) := by
 have key : ∀ k, k <= M + 1 -> -1300000 * (k : Int) <= tot g.x k := by
  intro k
  induction k with
  | zero => intro _; show _ <= (0 : Int); omega
  | succ k ih =>
   intro hk;have h1 := ih (by omega);have h2 := h.lo hy hb hf (a := k) (by omega);show _ <= tot g.x k + g.x k;omega
 exact key (M + 1) (Nat.le_refl _)
theorem rep_set {N f : Nat} : (List.replicate N (1000000000 : Int)).set f 0 = xs (W2 (fun _ => 1000000000) f 0) N := by
 rw [show List.replicate N (1000000000 : Int) = xs (fun _ => 1000000000) N from by unfold xs; rw [List.map_const', List.length_range]];exact xs_set
theorem seg_put {B : Nat -> Nat} {N f b : Nat} {D : Nat -> Nat -> Int} {x : Nat -> Int} {R : List Ob} : .row b 3 false (ints (xs x N)) :: (seg B N D f ++ R) = seg (updB B f b) N (W2 D f x) (f + 1) ++ R := by
 show _ = .row (updB B f b f) 3 false (ints (rowT (W2 D f x) N f)) :: (seg (updB B f b) N (W2 D f x) f ++ R);rw [show updB B f b f = b by simp [updB], show rowT (W2 D f x) N f = xs x N by unfold rowT xs; rw [U2]];rw [seg_congr (B := updB B f b) (B' := B) (T := W2 D f x) (T' := D) (fun j hj => by simp [updB]; omega) (fun j hj => by unfold rowT; rw [V0 (by omega)])]
theorem sls_put {B : Nat -> Nat} {N f b : Nat} (h : f < N) : over (slsT B N f N) (f * 1) [.slice (some ⟨b, 0, none⟩) N N] = slsT (updB B f b) N (f + 1) N := by
 rw [<- sls_set, Nat.zero_add, Nat.mul_one, List.set_eq_take_append_cons_drop, if_pos (by rw [sls_len]; exact h)];unfold over;simp
theorem dd_put {ls : List (List Int)} {N f : Nat} {D : Nat -> Nat -> Int} {x : Nat -> Int} (h : ∀ a, a < f -> Dd ls N a (D a)) (hx : Dd ls N f x) : ∀ a, a < f + 1 -> Dd ls N a (W2 D f x a) := fun a ha => by
 by_cases q : a = f
 ·subst q; rw [U2]; exact hx
 ·rw [V0 q]; exact h a (by omega)
section
variable {X : FuncId -> List Value -> St -> (Value -> St -> Bool) -> Bool}
theorem checkSound_s (n : Nat) (m : Int) (al : Option Addr) (cl : Nat) (ls : List (List Int)) (s : St) (hs : Wf s) (hn : 3659174697238528 <= n) (hL : RowsE s 4 al ls) : Spec Try.prog (tabK tabw) X (n + 6500) 37 [.agg ⟨[.int .i64 m, .slice al ls.length cl]⟩] s (fun v A => (¬ sysE m ls = 0 /\ v = .int .i64 (sysE m ls) /\ A = []) ∨ (sysE m ls = 0 /\ Uns ls (m.toNat + 1) /\ v = .int .i64 23 /\ A = []) ∨ (sysE m ls = 0 /\ ¬ Uns ls (m.toNat + 1) /\ v = .int .i64 0 /\ A = [])) := by
 refine enter bw37_at rfl hs ?_;unfold bw37;have hlen := hL.len;refine rS (kO J (a_box J J J (fun b1 => (kM J J (Q0 (rQ (rS (kO J (Z5 J (by decide) .here rfl (kO J (a_callV J J (fun s1 h1 => Check_s _ _ _ _ _ s1 h1.wf (by omega) (hL.ext hs h1.2.1)) (kM J J (Q0 (rS (kM J J (kO J (Y4 J J (fun h2 => ?_) (fun h2 => ?_))))))))))))))))))
 ·refine Q0 (Y0 J (rS (kM J J (kM J J (Q0 (Y3 (U3 ?_)))))))
  exact end1 J (.inl ⟨by omega, rfl, rfl⟩)
 ·have hsys : sysE m ls = 0 := by omega
  obtain ⟨hm0, hM, h400, hlm⟩ := sysE_ok hsys;obtain ⟨M, rfl⟩ : ∃ q : Nat, m = (q : Int) := ⟨m.toNat, by omega⟩;have hM : M <= 64 := by omega
  have h400 : ls.length <= 400 := by omega
  refine Q0 (Z0 J (Q1 (W0 (rQ (rS (kO J (Z5 J (by decide) .here rfl (kO J (W5 J J (fun s1 h1 => sound_s _ M al cl ls s1 h1.wf (by omega) (hL.ext hs h1.2.1) hM h400 hlm (sb_of hlm h400 hM)) (fun v1 A1 q1 => ?_))))))))));rcases q1 with ⟨hu, rfl, rfl⟩ | ⟨hu, rfl, rfl⟩
  ·have hun : ¬ Uns ls (M + 1) := fun q => (by obtain ⟨r, hr, e⟩ := hu; exact q r hr e)
   refine kO J (Z7 J (Q0 (Z0 J (Q1 (W0 (rS (kM J J (Q0 (Y3 ?_)))))))));exact end1 J (.inr (.inr ⟨hsys, hun, rfl, rfl⟩))
  ·have hun : Uns ls (M + 1) := hu
   refine kO J (Z7 J (Q0 (Y0 J (rS (kM J J (Q0 (Y3 (U3 ?_))))))));exact end1 J (.inr (.inl ⟨hsys, hun, rfl, rfl⟩))
theorem Close_s (n : Nat) (m : Int) (al : Option Addr) (cl : Nat) (ls : List (List Int)) (s : St) (hs : Wf s) (hn : 4503599627370496 <= n) (hL : RowsE s 4 al ls) : Spec Try.prog (tabK tabw) X (n + 7500) 16 [.agg ⟨[.int .i64 m, .slice al ls.length cl]⟩] s (fun v A => (¬ sysE m ls = 0 /\ v = .tuple #[.slice none 0 0, .int .i64 (sysE m ls)] /\ A = []) ∨ (sysE m ls = 0 /\ Uns ls (m.toNat + 1) /\ v = .tuple #[.slice none 0 0, .int .i64 23] /\ A = []) ∨ (sysE m ls = 0 /\ ¬ Uns ls (m.toNat + 1) /\ ∃ b B D, v = .tuple #[.slice (some ⟨b, 0, none⟩) (m.toNat + 1) (m.toNat + 1), .int .i64 0] /\ A = seg B (m.toNat + 1) D (m.toNat + 1) ++ [.row b 25 false (slsT B (m.toNat + 1) (m.toNat + 1) (m.toNat + 1))] /\ DT ls (m.toNat + 1) D)) := by
 refine enter bw16_at rfl hs ?_;unfold bw16;have hlen := hL.len;refine rS (kO J (a_box J J J (fun b1 => (kM J J (kM J J (Q0 (rQ (rS (kO J (Z5 J (by decide) .here rfl (kO J (W5 J J (fun s1 h1 => checkSound_s _ m al cl ls s1 h1.wf (by omega) (hL.ext hs h1.2.1)) (fun v1 A1 q1 => ?_)))))))))))));rcases q1 with ⟨hc, rfl, rfl⟩ | ⟨hc, hc2, rfl, rfl⟩ | ⟨hc, hc2, rfl, rfl⟩
 ·have hc1 := hc
  refine kM J J (Q0 (rS (kM J J (kO J (Y4 J J (fun h2 => ?_) (fun h2 => ?_))))))
  ·refine Q0 (Y0 J (rS (kM J J (kM J J (kM J J (Q0 (Y3 (U3 ?_))))))))
   exact end2 J J (.inl ⟨hc1, rfl, rfl⟩)
  ·exfalso; omega
 ·have hsys := hc
  refine kM J J (Q0 (rS (kM J J (kO J (Y4 J J (fun _ => (Q0 (Y0 J (rS (kM J J (kM J J (kM J J (Q0 (Y3 (U3 ?_)))))))))) (fun h => absurd h (by decide)))))));exact end2 J J (.inr (.inl ⟨hsys, hc2, rfl, rfl⟩))
 ·have hsys := hc
  obtain ⟨hm0, hM, h400, hlm⟩ := sysE_ok hsys;obtain ⟨M, rfl⟩ : ∃ q : Nat, m = (q : Int) := ⟨m.toNat, by omega⟩;have hM : M <= 64 := by omega
  have h400 : ls.length <= 400 := by omega
  have hun : ¬ Uns ls (M + 1) := hc2;obtain ⟨y, hy, hyb⟩ := set_pt hlm h400 hM hun;refine kM J J (Q0 (rS (kM J J (kO J (Y4 J J (fun h => absurd h (by decide)) (fun _ => (Q0 (Z0 J (Q1 (W0 (rS (kO J (Z5 J (by decide) .here rfl (kO J (W5 J J (fun s1 h1 => newFlow_s _ M al cl ls s1 h1.wf (by omega) (hL.ext hs h1.2.1) hM h400 hlm) (fun v1 A1 q1 => ?_))))))))))))))));obtain ⟨bf5, bt6, bn7, O, B, rfl, rfl, hO⟩ := q1;rw [List.append_assoc, List.cons_append, List.cons_append, List.cons_append, List.nil_append];refine kM J J (Q0 (rS (kO J (Z2 J (kO J (Z1 J (.app (.next (.next (.next .here)))) J (kO J (V3 J J (by omega) (kO J (a_mks1 (m := 0) (c := M + 1) J J (by omega) (by omega) (by omega) (fun b8 => (kM J J (Q0 (rQ (rS (kO J (Z2 J (kO J (Z1 J (.next (.app (.next (.next (.next .here))))) J (kO J (V3 J J (by omega) (kM J J (Q0 (Y1 ?_))))))))))))))))))))))));rw [sls_zero (B := fun _ => 0) (n := M + 1)];refine Y5 (fun j e A => ∃ (f : Nat) (Bs : Nat -> Nat) (Dm : Nat -> Nat -> Int), e = [(1, .pointer (some ⟨b1, 0, none⟩)), (5, .pointer (some ⟨bf5, 0, none⟩)), (6, .slice (some ⟨b8, 0, none⟩) f (M + 1)), (21, .int .i64 ((M : Int) + 1)), (22, .int .i64 (f : Int))] /\ A = (seg Bs (M + 1) Dm f ++ (.row b8 25 false (slsT Bs (M + 1) f (M + 1)) :: (nobj B (nl ls ls.length) O ++ (.row bf5 93 false ([.int .i64 (M : Int), .slice al ls.length cl, .slice (some ⟨bt6, 0, none⟩) ls.length ls.length, .slice (some ⟨bn7, 0, none⟩) (M + 1) (M + 1)]) :: (.row bn7 25 false (nsl B (nl ls ls.length) (M + 1)) :: (.row bt6 3 false (ints (List.replicate ls.length 0)) :: (.row b1 29 false ([.int .i64 (M : Int), .slice al ls.length cl]) :: []))))))) /\ j = M + 1 - f /\ f <= M + 1 /\ ∀ a, a < f -> Dd ls (M + 1) a (Dm a)) 3000 1688849860263936 281474976710656 ?_ (j := _) (env2 := _) (A2 := _) ?_ ?_ ?_ ?_ ⟨0, fun _ => 0, fun _ _ => 0, rfl, rfl, rfl, Nat.zero_le _, (fun a ha => absurd ha (Nat.not_lt_zero a))⟩
  rotate_left
  ·omega
  ·omega
  ·exact (lc 1 J (lc 5 J (lc 6 J (lc 21 J (lc 22 J Less.nil)))))
  ·exact (.q (.r (.q (.q (.q (.q .slnil))))))
  rintro n hn j _ _ ⟨f, Bs, Dm, rfl, rfl, rfl, hf, hD⟩;refine rS (kO J (V5 J J (fun h9 => ?_) (fun h9 => ?_)))
  ·refine Q0 (rQ (Y0 J (Q1 (W0 (rQ (Y1 (rS (kM J J (kM J J (Q0 (rI (kM J J (kM J J (kM J J (kG J J (a_inl J J bw39_at rfl ?_))))))))))))))))
   unfold bw39;refine rS (kM J J (Q0 (rS (kO J (a_lit J J J (fun b10 => (kM J J (kO J (V4 J (kO J (Z2 J (kO J (Z2 J (kO J (Z1 J (.next (.app (.next (.app .here)))) J (kO J (V3 J J (by omega) (kO J (W5 J J (fun s1 h1 => Repeat_s _ _ _ (M + 1) s1 h1.wf (by omega) (h1.own .here).all (by omega)) (fun v1 A1 q1 => ?_))))))))))))))))))));obtain ⟨bx11, rfl, rfl⟩ := q1;refine kM J J (Q0 (rS (kM J J (kO J (V4 J (kO J (Z2 J (kO J (Z2 J (kO J (Z1 J (.next (.next (.app (.next (.app .here))))) J (kO J (V3 J J (by omega) (kO J (a_mks5 (m := M + 1) (c := M + 1) J J (by omega) (by omega) (by omega) rep5 (fun b12 => (kM J J (Q0 (rS (kM J J (kM J J (kO J (W4 (j := f) J J (by omega) (by omega) (kZ J (Q8 J J (.next .here) (by first | omega | (simp; done) | (simp [wlen]; omega) | (simp; omega)) (Q0 (rQ (Y1 ?_))))))))))))))))))))))))))));rw [rep_set, cvs_zero (N := M + 1)];refine Y5 (fun j e A => ∃ (g : Fs), e = [(0, .pointer (some ⟨bf5, 0, none⟩)), (5, .slice (some ⟨bx11, 0, none⟩) (M + 1) (M + 1)), (6, .slice (some ⟨b12, 0, none⟩) (M + 1) (M + 1))] /\ A = (.row b12 115 false (cvs (g).c (M + 1)) :: (.row bx11 3 false (ints (xs (g).x (M + 1))) :: (seg Bs (M + 1) Dm f ++ (.row b8 25 false (slsT Bs (M + 1) f (M + 1)) :: (nobj B (nl ls ls.length) O ++ (.row bf5 93 false ([.int .i64 (M : Int), .slice al ls.length cl, .slice (some ⟨bt6, 0, none⟩) ls.length ls.length, .slice (some ⟨bn7, 0, none⟩) (M + 1) (M + 1)]) :: (.row bn7 25 false (nsl B (nl ls ls.length) (M + 1)) :: (.row bt6 3 false (ints (List.replicate ls.length 0)) :: (.row b1 29 false ([.int .i64 (M : Int), .slice al ls.length cl]) :: []))))))))) /\ j = (tot g.x (M + 1) + 100000000000).toNat /\ Dv ls (M + 1) f g) 2000 1125899906842624 281474976710656 ?_ (j := _) (env2 := _) (A2 := _) ?_ ?_ ?_ ?_ ⟨⟨W2 (fun _ => 1000000000) f 0, fun _ => (0, 0, 0, 0), -1⟩, rfl, rfl, rfl, (Dv.zero (by omega))⟩
   rotate_left
   ·omega
   ·have := (Dv.zero (ls := ls) (N := M + 1) (f := f) (by omega)).tot_hi (by omega); omega
   ·exact (lc 0 J (lc 5 J (lc 6 J Less.nil)))
   ·exact (.q (.q (.cons _ (.r (.q (.r (.q (.q (.q (.q .slnil))))))))))
   rintro n hn j _ _ ⟨g, rfl, rfl, rfl, hdv0⟩;refine rQ (rS (kM J J (kM J J (kM J J (kG J J (a_inl J J bw63_at rfl ?_))))));unfold bw63;refine rS (kO J (a_box J J J (fun b13 => (kO J (a_box J J J (fun b14 => (kM J J (Q0 (rS (kO J (a_new J J (fun b15 => (kZ J (a_st J J .here rfl rfl (Q0 (rQ (rS (kM J J (kO J (V4 J (kO J (Z2 J (kO J (Z2 J (kO J (Z1 J (.next (.next (.next (.next (.next (.app (.next (.app .here)))))))) J (kO J (V3 J J (by omega) (kM J J (Q0 (Y1 ?_)))))))))))))))))))))))))))))));refine r_loopD (fun j e D A => ∃ (v : Nat) (qs : List Nat), qs = D /\ e = [(0, .pointer (some ⟨bf5, 0, none⟩)), (4, .pointer (some ⟨b13, 0, none⟩)), (5, .pointer (some ⟨b14, 0, none⟩)), (7, .pointer (some ⟨b15, 0, none⟩)), (16, .int .i64 ((M : Int) + 1)), (17, .int .i64 (v : Int))] /\ A = (qs.map Ob.dfr ++ (.row b15 3 false ([.int .i64 (lwS ls (st0 g) v).l]) :: (.row b14 97 false ([.slice (some ⟨b12, 0, none⟩) (M + 1) (M + 1)]) :: (.row b13 25 false ([.slice (some ⟨bx11, 0, none⟩) (M + 1) (M + 1)]) :: (.row b12 115 false (cvs (lwS ls (st0 g) v).c (M + 1)) :: (.row bx11 3 false (ints (xs (lwS ls (st0 g) v).x (M + 1))) :: (seg Bs (M + 1) Dm f ++ (.row b8 25 false (slsT Bs (M + 1) f (M + 1)) :: (nobj B (nl ls ls.length) O ++ (.row bf5 93 false ([.int .i64 (M : Int), .slice al ls.length cl, .slice (some ⟨bt6, 0, none⟩) ls.length ls.length, .slice (some ⟨bn7, 0, none⟩) (M + 1) (M + 1)]) :: (.row bn7 25 false (nsl B (nl ls ls.length) (M + 1)) :: (.row bt6 3 false (ints (List.replicate ls.length 0)) :: (.row b1 29 false ([.int .i64 (M : Int), .slice al ls.length cl]) :: []))))))))))))) /\ j = M + 1 - v /\ v <= M + 1) 1200 562949953421312 281474976710656 ?_ (j := _) (env2 := _) (A2 := _) ?_ ?_ ?_ ?_ ⟨0, [], rfl, rfl, rfl, rfl, Nat.zero_le _⟩
   rotate_left
   ·omega
   ·omega
   ·exact (lc 0 J (lc 4 J (lc 5 J (lc 7 J (lc 16 J (lc 17 J Less.nil))))))
   ·exact (.q (.q (.q (.q (.q (.r (.q (.r (.q (.q (.q (.q .slnil))))))))))))
   rintro n hn j _ _ _ ⟨v, qs, rfl, rfl, rfl, rfl, hv⟩;have hnl9 := nl_le (ls := ls) ls.length v;have hdv1 := (Dv.lws hlm hM hdv0.st0 (v := v) (by omega)).1;refine rS (kO J (V5 J J (fun h16 => ?_) (fun h16 => ?_)))
   ·refine Q0 (rQ (Y0 J (Q1 (W0 (rQ (Y1 (rS (kM J J (kO J (a_new J J (fun b17 => (kZ J (a_st J J .here rfl rfl (Q0 (rQ (rS (kO J (Z1 J (.next (.app (.next (.next .here)))) J (kO J (Z1 J .here rfl (kO J (W4 (j := v) J J (by omega) (by omega) (kO J (U5 (x := ((lwS ls (st0 g) v).x) (v)) J (.next (.app (.next (.next (.next (.next .here)))))) (by rw [Q4]; omega) (U4 (by omega)) (kO J (a_eql J J (fun h18 => ?_) (fun h18 => ?_)))))))))))))))))))))))))))
    ·refine Q0 (Y0 J (Q5 (Q3 (Z3 (W0 (rI (kO J (V3 J J (by omega) (kM J J (Q0 (W0 ?_)))))))))))
     exact ⟨_, _, _, (show M + 1 - (v + 1) < M + 1 - v by omega), (lc 0 J (lc 4 J (lc 5 J (lc 7 J (lc 16 J (lc 17 J Less.nil)))))), (.cons _ (.r (.q (.q (.q (.q (.q (.r (.q (.r (.q (.q (.q (.q .slnil)))))))))))))), ⟨v + 1, qs, rfl, rfl, (by rw [lws_free (by assumption)]), rfl, by omega⟩⟩
    ·have hfr9 := h18
     refine Q0 (Z0 J (Q1 (W0 (rS (kM J J (kO J (Z1 J .here rfl (kG J J (a_inl J J bw79_at rfl ?_)))))))));unfold bw79;refine rS (kO J (a_box J J J (fun b19 => (kO J (a_box J J J (fun b20 => (kM J J (Q0 (rS (kO J (a_fn J J (kM J J (Q0 (Y3 (endD1 J .nil (Q0 (Y1 (r_rangeV J bw88_at rfl (fun q21 l22 LO23 BO24 hLO23 hBO24 => ?_)))))))))))))))))));unfold bw88;refine rS (kO J (Z1 J (.next (.next (.next .here))) J (kO J (V4 J (kO J (Z2 J (kO J (Z1 J (.next (.next (.next (.next (.next (.app (.next (.next (.next (.next (.next (.app (.next (.app .here)))))))))))))) J (kO J (Z1 J (.next (.next .here)) J (kO J (W4 (j := v) J J (by omega) (by omega) (kO J (Z1 J (.next (.next (.next (.next (.next (.app (.next (.next (.next (.next (.next (.app (.next (.app (.next .here))))))))))))))) (nsl_get (by omega)) (kO J (a_lenN J (kM J J (Q0 (Y1 ?_)))))))))))))))))));refine Y5 (fun j e A => ∃ (q : Nat), e = [(0, .func (.yield l22) ⟨[]⟩ ⟨[]⟩), (1, .pointer (some ⟨b19, 0, none⟩)), (2, .pointer (some ⟨b20, 0, none⟩)), (14, nsv B (nl ls ls.length) v), (15, .int .i64 ((nl ls ls.length v).length : Int)), (16, .int .i64 (q : Int))] /\ A = (LO23 :: (.dfr q21 :: (.row b20 3 false ([.int .i64 (v : Int)]) :: (.row b19 61 false ([.pointer (some ⟨bf5, 0, none⟩)]) :: (.row b17 3 false ([.int .i64 (v : Int)]) :: (qs.map Ob.dfr ++ (.row b15 3 false ([.int .i64 (rwS ls (lwS ls (st0 g) v) v q).l]) :: (.row b14 97 false ([.slice (some ⟨b12, 0, none⟩) (M + 1) (M + 1)]) :: (.row b13 25 false ([.slice (some ⟨bx11, 0, none⟩) (M + 1) (M + 1)]) :: (.row b12 115 false (cvs (rwS ls (lwS ls (st0 g) v) v q).c (M + 1)) :: (.row bx11 3 false (ints (xs (rwS ls (lwS ls (st0 g) v) v q).x (M + 1))) :: (seg Bs (M + 1) Dm f ++ (.row b8 25 false (slsT Bs (M + 1) f (M + 1)) :: (nobj B (nl ls ls.length) O ++ (.row bf5 93 false ([.int .i64 (M : Int), .slice al ls.length cl, .slice (some ⟨bt6, 0, none⟩) ls.length ls.length, .slice (some ⟨bn7, 0, none⟩) (M + 1) (M + 1)]) :: (.row bn7 25 false (nsl B (nl ls ls.length) (M + 1)) :: (.row bt6 3 false (ints (List.replicate ls.length 0)) :: (.row b1 29 false ([.int .i64 (M : Int), .slice al ls.length cl]) :: [])))))))))))))))))) /\ j = (nl ls ls.length v).length - q /\ q <= (nl ls ls.length v).length) 800 281474976710656 281474976710656 ?_ (j := _) (env2 := _) (A2 := _) ?_ ?_ ?_ ?_ ⟨0, rfl, rfl, rfl, Nat.zero_le _⟩
     rotate_left
     ·omega
     ·omega
     ·exact (lc 0 J (lc 1 J (lc 2 J (lc 14 J (lc 15 J (lc 16 J Less.nil))))))
     ·exact (.q (.q (.q (.q (.q (.r (.q (.q (.q (.q (.q (.r (.q (.r (.q (.q (.q (.q .slnil))))))))))))))))))
     rintro n hn j _ _ ⟨q, rfl, rfl, rfl, hq⟩;refine rS (kO J (V5 J J (fun h25 => ?_) (fun h25 => ?_)))
     ·have hq9 : q < (nl ls ls.length v).length := by omega
      obtain ⟨li, hi0, hil, hnam⟩ := nl_mem hq9;obtain ⟨q4, o4, y0, y1, y2, y3, ahL, hx, hat, i0, i1, i2, i3⟩ := hL.row4 (k := li) (by omega);have hat2 := hat;obtain ⟨d0, d1, d2, d3, _⟩ := hat2;have := i0.lo; have := i0.hi;have := i1.lo; have := i1.hi;have := i2.lo; have := i2.hi;have := i3.lo; have := i3.hi;have hc4 := lmB_at hlm hx;have hnm := nam_of hnam hx;obtain ⟨u0, rfl⟩ : ∃ q : Nat, y0 = (q : Int) := ⟨y0.toNat, by omega⟩;obtain ⟨u1, rfl⟩ : ∃ q : Nat, y1 = (q : Int) := ⟨y1.toNat, by omega⟩;refine Q0 (rQ (Y0 J (Q1 (W0 (rQ (Y1 (rS (kO J (a_iaN (j := q) J J (by omega) (by omega) (kO J (U5 (x := (li : Int)) J (.next (.next (.next (.next (.next (.app (.next (.next (.next (.next (.next (.app (.next (own_nobj ((hO.2 _ (by omega)).2 (fun e => by rw [e] at hq9; exact absurd hq9 (Nat.not_lt_zero _))))))))))))))))) (by omega) hi0 (kM J J (Q0 (rS (kO J (Z1 J (.next (.next (.next .here))) J (kO J (V4 J (kO J (Z2 J (kO J (Z2 J (kO J (Z1 J (.next (.next (.next (.next (.next (.app (.next (.next (.next (.next (.next (.app (.next (.app .here)))))))))))))) J (kM J J (kO J (a_iaA (j := li) ahL rfl rfl (by first | rfl | omega) (by first | decide | omega) (kO J (a_ldar J (by decide) (by assumption) J (kO J (a_new J J (fun b26 => (kZ J (V6 J J .here rfl rfl rfl rfl (Q0 ?_)))))))))))))))))))))))))))))))))));refine rS (kM J J (kO J (Z1 J (.next (.next (.next .here))) J (kO J (Z2 J (kO J (Z1 J .here rfl (kO J (Z2 J (kO J (Z1 J .here rfl (kO J (Y7 J J (kO J (a_new J J (fun b27 => (kZ J (V6 J J .here rfl rfl rfl rfl (Q0 (rQ (rS (kO J (Z2 J (kO J (Z1 J (.next .here) J (kO J (Z1 J (.next (.next (.next (.next .here)))) J (kO J (a_eql J J (fun h28 => ?_) (fun h28 => ?_))))))))))))))))))))))))))))))
      ·have hu1 : v = u1 := by omega
       subst hu1;have hb9 := hx;refine Q0 (Y0 J (rI (kM J J (kO J (Z1 J (.next (.next (.next (.next .here)))) J (kO J (Z2 J (kO J (Z1 J (.next .here) J (kO J (Z2 J (kO J (Z1 J (.next .here) J (kO J (a_neg J (by omega) (kO J (Y7 J J (kZ J (V6 J J .here rfl rfl rfl rfl (Q0 (W0 (rQ (rS (kO J (Z2 J (kO J (Z1 J .here rfl (kM J J (kG J J (Z1 J (.next (.next (.next (.next (.next .here))))) J (kG J J (V4 J (kG J J (Z2 J (kG J J (Z1 J (.next (.next (.next (.next (.next (.next (.next (.app (.next (.next (.next (.next (.next (.app (.next (.app .here)))))))))))))))) J (kG J J (W3 J ?_))))))))))))))))))))))))))))))))))))));refine kG J J (W4 (j := li) J J (by omega) (by omega) (kG J J (U5 (x := 0) J (.next (.next (.next (.next (.next (.next (.next (.app (.next (.next (.next (.next (.next (.app (.next (.app (.next (.next .here)))))))))))))))))) (by rw [List.length_replicate]; omega) rep_get (kG J J (a_eql J J (fun _ => (kO J (V2 J J J (Q0 (Y0 J (Q5 (Q3 (Z3 (W0 (rI (kO J (V3 J J (by omega) (kM J J (Q0 (W0 ?_))))))))))))))) (fun h => absurd h (by decide)))))));exact ⟨rfl, _, _, _, (show (nl ls ls.length v).length - (q + 1) < (nl ls ls.length v).length - q by omega), (lc 0 J (lc 1 J (lc 2 J (lc 14 J (lc 15 J (lc 16 J Less.nil)))))), (.cons _ (.cons _ (.q (.q (.q (.q (.q (.r (.q (.q (.q (.q (.q (.r (.q (.r (.q (.q (.q (.q .slnil)))))))))))))))))))), ⟨q + 1, rfl, (by first | (rw [rws_back hi0 hb9]; done) | (rw [rws_less hi0 hx hnb9 hls9]; done) | (rw [rws_less hi0 hx hnb9 hls9]; rfl) | (rw [rws_more hi0 hx hgr9]; done)), rfl, by omega⟩⟩
      ·have hnb9 := h28
       refine Q0 (Z0 J (Q1 (W0 (rQ (rS (kO J (Z2 J (kO J (Z1 J .here rfl (kM J J (U0 J J (U0 J J (U0 J J (U0 J J (U0 J J (U0 J J (U0 J J (U0 J J (kO J (V1 J J J (Q0 (Z0 J (Q1 (W0 (rS (kM J J ?_))))))))))))))))))))))))));refine kO J (Z5 J (by decide) .here rfl (kG J J (a_yieldV J J hLO23 hBO24 (by simp) J J (rI (kO J (a_new J J (fun b30 => (kZ J (V6 J J .here rfl rfl rfl rfl (Q0 (⟨_, (.next (.next (.next .here))), (Y1 (rS (kO J (Z1 J (.next (.next (.next (.next (.next (.next (.next (.next (.app (.next (.next .here))))))))))) J (kO J (Z1 J (.next (.next (.next (.next (.next (.next (.next .here))))))) J (kO J (W4 (j := v) J J (by omega) (by omega) (kO J (U5 (x := ((rwS ls (lwS ls (st0 g) v) v q).x) (v)) J (.next (.next (.next (.next (.next (.next (.next (.next (.app (.next (.next (.next (.next .here))))))))))))) (by rw [Q4]; omega) (U4 (by omega)) (kO J (Z2 J (kO J (Z1 J .here rfl ?_))))))))))))))⟩)))))))))));have hdq := Dv.rws hlm hM (by omega) hfr9 hdv1 (q := q) (by omega);have hb1 := hdq.1.hi (by omega) (a := v) (by omega);have hb2 := hdq.1.lo hy hyb (by omega) (a := v) (by omega);have hb3 := hdq.2.1;refine kO J (V3 J J (by omega) (kM J J (Q0 (rS (kM J J (kO J (Z1 J (.next (.next (.next (.next (.next (.next (.next (.next (.app (.next (.next .here))))))))))) J (kO J (Z2 J (kO J (Z1 J .here rfl (kO J (W4 (j := u1) J J (by omega) (by omega) (kO J (U5 (x := ((rwS ls (lwS ls (st0 g) v) v q).x) (u1)) J (.next (.next (.next (.next (.next (.next (.next (.next (.app (.next (.next (.next (.next .here))))))))))))) (by rw [Q4]; omega) (U4 (by omega)) (kO J (V5 J J (fun h31 => ?_) (fun h31 => ?_))))))))))))))))))
       ·have hls9 := h31
        refine Q0 (Y0 J (rI (kO J (Z1 J (.next (.next (.next (.next (.next (.next (.next (.next (.app (.next (.next .here))))))))))) J (kO J (Z2 J (kO J (Z1 J .here rfl (kO J (Z1 J (.next (.next (.next (.next (.next (.next (.next (.next (.app (.next .here)))))))))) J (kO J (Z2 J (kO J (Z1 J .here rfl (kM J J (kO J (Z5 J (by decide) .here rfl (kO J (Z2 J (kO J (Z1 J .here rfl (kO J (W4 (j := u1) J J (by omega) (by omega) (kZ J (Q8 J J (by rw [xs_set]; exact (.next (.next (.next (.next (.next (.next (.next (.next (.app (.next (.next (.next (.next .here)))))))))))))) (by rw [Q4]; omega) (kZ J (a_again J J .here rfl (by simp [eqV, eqA, eqL, kindEq, intEq_eq, U6 hL.spot]) (kZ J (a_againa J J (by decide) .here rfl (by simp [eqL, eqV, eqA, kindEq, intEq_eq, U6 hL.spot]) (kZ J (a_again J J .here rfl (by simp [eqV, eqA, eqL, kindEq, intEq_eq, U6 hL.spot]) (kZ J (a_again J J (.next (.next (.next (.next (.next (.next (.next (.next (.app (.next .here)))))))))) J (by simp [eqV, eqA, eqL, kindEq, intEq_eq, U6 hL.spot]) (kO J (W4 (j := u1) J J (by omega) (by omega) (kZ J (V6 J J (.next (.next (.next (.next (.next (.next (.next (.next (.app (.next (.next (.next .here)))))))))))) (cam_over (p := (_, _, _, _)) (by omega)) (by rw [Nat.ble_eq, cvs_len]; omega) J J (kZ J (a_again J J .here rfl (by simp [eqV, eqA, eqL, kindEq, intEq_eq, U6 hL.spot]) (kZ J (a_st J J (.next (.next (.next (.next (.next (.next (.next (.next (.app .here))))))))) J J (Q0 ?_))))))))))))))))))))))))))))))))))))))))));refine U1 (⟨_, (.next (.next (.next .here))), (kO J (Z7 J (Q0 (Z0 J (Q1 (U1 (W0 (rI (kO J (V3 J J (by omega) (kM J J (Q0 (W0 ?_)))))))))))))⟩);exact ⟨rfl, _, _, _, (show (nl ls ls.length v).length - (q + 1) < (nl ls ls.length v).length - q by omega), (lc 0 J (lc 1 J (lc 2 J (lc 14 J (lc 15 J (lc 16 J Less.nil)))))), (.cons _ (.cons _ (.cons _ (.q (.q (.q (.q (.q (.r (.q (.q (.q (.q (.q (.r (.q (.r (.q (.q (.q (.q .slnil))))))))))))))))))))), ⟨q + 1, rfl, (by first | (rw [rws_back hi0 hb9]; done) | (rw [rws_less hi0 hx hnb9 hls9]; done) | (rw [rws_less hi0 hx hnb9 hls9]; rfl) | (rw [rws_more hi0 hx hgr9]; done)), rfl, by omega⟩⟩
       ·have hgr9 := h31
        refine Q0 (Z0 J (Q1 (U1 (⟨_, (.next (.next (.next .here))), (kO J (Z7 J (Q0 (Z0 J (Q1 (U1 (W0 (rI (kO J (V3 J J (by omega) (kM J J (Q0 (W0 ?_)))))))))))))⟩))));exact ⟨rfl, _, _, _, (show (nl ls ls.length v).length - (q + 1) < (nl ls ls.length v).length - q by omega), (lc 0 J (lc 1 J (lc 2 J (lc 14 J (lc 15 J (lc 16 J Less.nil)))))), (.cons _ (.cons _ (.cons _ (.q (.q (.q (.q (.q (.r (.q (.q (.q (.q (.q (.r (.q (.r (.q (.q (.q (.q .slnil))))))))))))))))))))), ⟨q + 1, rfl, (by first | (rw [rws_back hi0 hb9]; done) | (rw [rws_less hi0 hx hnb9 hls9]; done) | (rw [rws_less hi0 hx hnb9 hls9]; rfl) | (rw [rws_more hi0 hx hgr9]; done)), rfl, by omega⟩⟩
     ·have hql : q = (nl ls ls.length v).length := by omega
      subst hql;refine Q0 (rQ (Z0 J (Q5 (Q3 (Q3 (Z3 (endD0n .nil (.inl ⟨_, .here, (U1 (U1 (W0 (rI (kO J (V3 J J (by omega) (kM J J (Q0 (W0 ?_)))))))))⟩))))))));exact ⟨_, _, _, (show M + 1 - (v + 1) < M + 1 - v by omega), (lc 0 J (lc 4 J (lc 5 J (lc 7 J (lc 16 J (lc 17 J Less.nil)))))), (.q (.cons _ (.cons _ (.cons _ (.r (.q (.q (.q (.q (.q (.r (.q (.r (.q (.q (.q (.q .slnil))))))))))))))))), ⟨v + 1, q21 :: qs, rfl, rfl, (by rw [lws_go (by assumption)]; rfl), rfl, by omega⟩⟩
   ·have hvN : v = M + 1 := by omega
    subst hvN;refine Q0 (rQ (Z0 J (Q5 (Q3 (Q3 (Z3 (W0 (rS (kO J (Z1 J (.app .here) J (kM J J (Q0 (Y3 (endD1 J deld_map (kO J (Y4 J J (fun h32 => ?_) (fun h32 => ?_)))))))))))))))))
    ·have hne9 := h32
     refine Q0 (Y0 J (Q1 (W0 (Y1 (Q1 (U1 (W0 ?_)))))));have hd1 := Dv.lws hlm hM hdv0.st0 (v := M + 1) (Nat.le_refl _);have htl : tot (lwS ls (st0 g) (M + 1)).x (M + 1) < tot g.x (M + 1) := hd1.2.resolve_left (fun e => hne9 (by rw [e]; rfl));have htb := hd1.1.tot_lo hy hyb (by omega);exact ⟨rfl, _, _, _, (show (tot (lwS ls (st0 g) (M + 1)).x (M + 1) + 100000000000).toNat < (tot g.x (M + 1) + 100000000000).toNat by omega), (lc 0 J (lc 5 J (lc 6 J Less.nil))), (.cons _ (.cons _ (.cons _ (.q (.q (.r (.q (.r (.q (.q (.q (.q .slnil)))))))))))), ⟨lwS ls (st0 g) (M + 1), rfl, rfl, rfl, hd1.1⟩⟩
    ·obtain ⟨he9, hdd⟩ := dd_of hlm hM (by omega) hy hdv0 h32
     rw [he9];refine Q0 (Z0 J (Q5 (Q3 (Q3 (Z3 (W0 (rS (kM J J (kM J J (Q0 (Y3 (endD1 J .nil (kO J (a_lit J J J (fun b33 => (kO J (a_appc J J (Src.own .here rfl (by simp)) (.next (.next (.next (.next (.next (.next (.app .here))))))) (by rw [sls_len, Nat.mul_one]) (by omega) (by show _ < 18446744073709551616; omega) (by omega) (by omega) (kM J J (Q0 (U1 (W0 (rI (kO J (V3 J J (by omega) (kM J J (Q0 (W0 ?_)))))))))))))))))))))))))));exact ⟨rfl, _, _, _, (show M + 1 - (f + 1) < M + 1 - f by omega), (lc 1 J (lc 5 J (lc 6 J (lc 21 J (lc 22 J Less.nil))))), (.cons _ (.cons _ (.cons _ (.cons _ (.cons _ (.q (.r (.q (.r (.q (.q (.q (.q .slnil))))))))))))), ⟨f + 1, updB Bs f bx11, W2 Dm f g.x, rfl, (by rw [List.set_cons_zero, sls_put (by omega)]; exact seg_put), rfl, by omega, (dd_put hD hdd)⟩⟩
  ·have hfN : f = M + 1 := by omega
   subst hfN;refine Q0 (rQ (Z0 J (Q5 (Q3 (Q3 (Z3 (W0 (rS (kM J J (kM J J (kM J J (Q0 (Y3 ?_)))))))))))));exact end2A J J (.r (.q (List.sublist_append_of_sublist_right (.cons _ (.cons _ (.cons _ (.cons _ .slnil))))))) (.inr (.inr ⟨hsys, hc2, _, Bs, Dm, rfl, rfl, hD⟩))
end
end Ev
end Go.Proofs.Ytoeklhdklcpllaa
