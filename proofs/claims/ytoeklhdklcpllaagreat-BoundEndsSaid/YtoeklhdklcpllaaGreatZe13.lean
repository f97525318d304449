import Derived.Test.YtoeklhdklcpllaaGreatZe12
set_option linter.unusedVariables false
set_option linter.unusedSimpArgs false
namespace Go.Proofs.YtoeklhdklcpllaaGreat
open Go Go.RowKit
namespace Ev
theorem deld_at {x : Ob} {qs : List Nat} {A A' : List Ob} (h : DelD A qs A') : DelD (x :: A) qs (x :: A') := by
 induction h with
 | nil => exact .nil
 | cons h k ih => exact .cons (.next h) ih
theorem tr_frc {g : Tp} {j : Nat} {z : Int} (h : j < 65) (e : (g.cm j).fr = z) : (trC g)[0 + 65 + j * 5 + 2]? = some (.int .i64 z) := by rw [tr_fr h, e]
theorem cml_frc {σ : Nat -> Cm} {n j : Nat} {z : Int} (h : j < n) (e : (σ j).fr = z) : (cml σ n)[0 + j * 5 + 2]? = some (.int .i64 z) := by
 rw [cml_get h (by decide)];show some (Value.int .i64 (σ j).fr) = _;rw [e]
theorem cml_toc {σ : Nat -> Cm} {n j v : Nat} (h : j < n) (e : (σ j).to = v) : (cml σ n)[0 + j * 5 + 3]? = some (.int .i64 (v : Int)) := by
 rw [cml_get h (by decide)];show some (Value.int .i64 ((σ j).to : Int)) = _;rw [e]
theorem xs_tl {T : Nat -> Int} {K a o k : Nat} (ho : o = a) (hk : a + k < K) : (ints (xs T K))[o + k * 1]? = some (.int .i64 (T (a + k))) := by
 subst ho;unfold ints xs;rw [List.getElem?_map, List.getElem?_map, List.getElem?_range (by omega), Nat.mul_one]; rfl
theorem mx_bd {D : Nat -> Int} {M : Nat} (h : ∀ v, v < M + 1 -> -3600000000000 <= D v /\ D v <= 3600000000000) : -3600000000000 <= mxV (xs D (M + 1)) ((xs D (M + 1)).length - 1) /\ mxV (xs D (M + 1)) ((xs D (M + 1)).length - 1) <= 3600000000000 := by
 obtain ⟨j, h1, h2⟩ := mx_mem (l := xs D (M + 1)) (k := (xs D (M + 1)).length - 1);rw [W4] at h1;rw [h2, V4 (by omega)];exact h j (by omega)
theorem Lv.ps_le {ls : List (List Int)} {M : Nat} {w D t p : Nat -> Int} {P base : Int} (h : Lv ls M w D t p P base) : posS D (M + 1) <= 3600000000000 := by
 have h1 := tot_nn (f := t) h.ld.nn;have h2 := h.tm;omega
theorem pos_mem {D : Nat -> Int} {N v : Nat} (hv : v < N) : D v <= posS D N := by
 have := tot_mem (f := fun v => max (D v) 0) (fun i _ => by show 0 <= max (D i) 0; omega) v hv;have h2 : max (D v) 0 <= posS D N := this;omega
theorem neg_mem {D : Nat -> Int} {N v : Nat} (hs : tot D N = 0) (hv : v < N) : -(D v) <= posS D N := by
 have h1 := tot_mem (f := fun v => max (D v) 0 - D v) (fun i _ => by show 0 <= max (D i) 0 - D i; omega) v hv;have h2 := tot_sub (f := fun v => max (D v) 0) (g := D) (N := N);have h3 : tot (fun v => max (D v) 0) N = posS D N := rfl;have h4 : max (D v) 0 - D v <= tot (fun v => max (D v) 0 - D v) N := h1;omega
theorem Lv.d_bd {ls : List (List Int)} {M : Nat} {w D t p : Nat -> Int} {P base : Int} (h : Lv ls M w D t p P base) : ∀ v, v < M + 1 -> -3600000000000 <= D v /\ D v <= 3600000000000 := fun v hv => by
 have h1 := h.ps_le;have h2 := pos_mem (D := D) hv;have h3 := neg_mem h.sm hv;omega
theorem Lv.t_bd {ls : List (List Int)} {M : Nat} {w D t p : Nat -> Int} {P base : Int} (h : Lv ls M w D t p P base) : ∀ i, i < (ls ++ Y1 M).length -> 0 <= t i /\ t i <= 230400000000000 := fun i hi => by
 have h1 := tot_mem (f := t) h.ld.nn i hi;have h2 := h.tm;have h3 := posS_nn (d := D) (N := M + 1);exact ⟨h.ld.nn i hi, by omega⟩
theorem bs_bd {f : Nat} (h : f <= 8) : 1280000 <= bs f /\ bs f <= 21760016 := by unfold bs; omega
theorem Lv.p_bd {ls : List (List Int)} {M f : Nat} {w D t p : Nat -> Int} {P : Int} (h : Lv ls M w D t p P (bs f)) (hf : f <= 8) : ∀ v, v < M + 1 -> -1300000 <= p v /\ p v <= 30000000 := fun v hv => by
 have h1 := h.pu v hv;have h2 := h.pl v hv;have h3 := bs_bd hf;omega
theorem lv_start {ls : List (List Int)} {M e : Nat} {w : List Int} {p0 : Nat -> Int} (hM : M <= 64) (hw : w.length = M + 1) (hwo : WOk w w.length) (h1 : ∀ i, i < ls.length -> p0 (lb ls i) <= p0 (la ls i) + lw ls i) (h2 : ∀ v, v < M + 1 -> -1280000 <= p0 v /\ p0 v <= 1280000) (h3 : p0 0 = 0) (he : e <= 6) : Lv ls M (du0 w M) (du0 w M) (fun _ => 0) p0 (pwr (e + 1)) (bs (e + 1)) := by
 have hb := bs_bd (f := e + 1) (by omega);obtain ⟨d1, d2⟩ := du_pos hw hwo;have hK : (ls ++ Y1 M).length = ls.length + 2 * M := by rw [List.length_append, toll_len]
 have h0 : ∀ v k, net (ls ++ Y1 M) (fun _ => 0) k v = 0 := by
  intro v k
  induction k with
  | zero => rfl
  | succ k ih =>
   show net _ _ k v + _ = 0;rw [ih]; simp
 refine ⟨⟨fun _ _ => Int.le_refl _, fun v _ => by rw [h0]; omega, fun i hi => ?_, fun i hi hp => absurd hp (by decide)⟩, fun i _ => ⟨0, by simp⟩, du_tot, ?_, fun v hv _ => by have := h2 v hv; omega, fun v hv => by have := h2 v hv; omega, fun v hv => by have := h2 v hv; omega, fun i _ => by omega⟩
 ·by_cases q : i < ls.length
  ·obtain ⟨e1, e2, e3⟩ := app_fld (us := Y1 M) q
   rw [e1, e2, e3]; exact h1 i q
  ·obtain ⟨j, hj, hd⟩ : ∃ j, j < M /\ (i = ls.length + 2 * j ∨ i = ls.length + 2 * j + 1) := ⟨(i - ls.length) / 2, by omega, by omega⟩
   obtain ⟨t1, t2⟩ := tl_up (ls := ls) hj;have := h2 (j + 1) (by omega);rcases hd with rfl | rfl
   ·obtain ⟨e1, e2, e3⟩ := fld t1
    rw [e1, e2, e3, h3]; omega
   ·obtain ⟨e1, e2, e3⟩ := fld t2
    rw [e1, e2, e3, h3]; omega
 ·rw [tot_nil (fun _ _ => rfl)]; omega
def P2I (ls : List (List Int)) (M : Nat) (w D T p : Nat -> Int) (e : Nat) : Prop := e <= 7 /\ ((e = 0 /\ (∀ v, v < M + 1 -> D v = 0) /\ Lv ls M w D T p 1 (bs 1)) ∨ (0 < e /\ Lv ls M w D T p (pwr e) (bs e)))
theorem p2_start {ls : List (List Int)} {M e : Nat} {w D T p : Nat -> Int} (he : e <= 6) (h : Lv ls M w D T p (pwr (e + 1)) (bs (e + 1))) : P2I ls M w D T p (e + 1) := ⟨by omega, .inr ⟨by omega, h⟩⟩
theorem p2_go {ls : List (List Int)} {M e : Nat} {w D T p : Nat -> Int} (h : P2I ls M w D T p e) (hp : 0 < pwr e) : ∃ f, e = f + 1 /\ f <= 6 /\ Lv ls M w D T p (pwr (f + 1)) (bs (f + 1)) := by
 obtain ⟨h1, ⟨h2, _⟩ | ⟨h2, h3⟩⟩ := h
 ·subst h2; exact absurd hp (by decide)
 ·obtain ⟨f, rfl⟩ : ∃ f, e = f + 1 := ⟨e - 1, by omega⟩
  exact ⟨f, rfl, by omega, h3⟩
theorem p2_end {ls : List (List Int)} {M e : Nat} {w D T p : Nat -> Int} (h : P2I ls M w D T p e) (hp : ¬ 0 < pwr e) : (∀ v, v < M + 1 -> D v = 0) /\ Lv ls M w D T p 1 (bs 1) := by
 obtain ⟨h1, ⟨h2, h3⟩ | ⟨h2, h3⟩⟩ := h
 ·exact h3
 ·obtain ⟨f, rfl⟩ : ∃ f, e = f + 1 := ⟨e - 1, by omega⟩
  exact absurd pwr_pos hp
theorem Dj.rg {ts : List (List Int)} {N : Nat} {t p : Nat -> Int} {S : Nat -> Prop} {U : Int} {g : Tp} {rk : Nat -> Nat} (hj : Dj ts N t p S U g rk) (hU : U <= 30000000) (hN : N <= 65) (hp : ∀ v, v < N -> -1300000 <= p v /\ p v <= 30000000) : ∀ v, v < N -> 0 <= g.pr v /\ g.pr v <= 1000000000 := fun v hv => by
 refine ⟨hj.pos v hv, ?_⟩;have h1 := cnB_le (f := g.lf) (N := N);have h2 := hp v hv;rcases hj.bd v hv with q | q <;> omega
theorem Dq.rg {ts : List (List Int)} {N : Nat} {t p : Nat -> Int} {S : Nat -> Prop} {U : Int} {g h : Tp} {v0 : Nat} {rk : Nat -> Nat} (hj : Dj ts N t p S U g rk) (hr : ∀ v, v < N -> 0 <= g.pr v /\ g.pr v <= 1000000000) (hv0 : v0 < N) (hq : Dq ts N t p S U g v0 rk h) : ∀ v, v < N -> 0 <= h.pr v /\ h.pr v <= 1000000000 := fun v hv => by
 have h1 := hq.le v hv;have h2 := hr v hv;have h3 := hr v0 hv0;cases e : h.lf v with
 | true => have := hq.vis v hv e; omega
 | false => have := hq.ord v hv e; omega
theorem p2_next {ls : List (List Int)} {M f : Nat} {w D T p : Nat -> Int} {g : Tp} {rk : Nat -> Nat} {y : Int} (hl : lmB (M : Int) ls = true) (hM : M <= 64) (hf : f <= 6) (h : Lv ls M w D T p (pwr (f + 1)) (bs (f + 1))) (hj : Dj (ls ++ Y1 M) (M + 1) T p (fun v => D v <= -(pwr (f + 1))) (bs (f + 1)) g rk) (hnd : ∀ v, v < M + 1 -> g.lf v = true -> D v < pwr (f + 1)) (hN : Nr g (M + 1) (-1) y) : P2I ls M w D T p f := by
 have hb := bs_bd (f := f + 1) (by omega);have hrg := hj.rg (by omega) (by omega) (h.p_bd (by omega));have hall : ∀ v, v < M + 1 -> g.lf v = false -> g.pr v = 1000000000 := fun v hv hl' => by
  rcases hN with ⟨_, _, n3⟩ | ⟨u, _, n2, _⟩
  ·have h1 := n3 v hv hl'
   have h2 := (hrg v hv).2;omega
  ·omega
 refine ⟨by omega, ?_⟩;cases f with
 | zero => exact .inl ⟨rfl, Lv.done hl hM h (by omega) hj hall hnd, h⟩
 | succ f =>
  have := h.finer (pwr_dvd (e := f));rw [show bs (f + 1 + 1) + 2560002 = bs (f + 1) by unfold bs; omega] at this;exact .inr ⟨by omega, this⟩
theorem du_rng {w : List Int} {k : Nat} (h : WOk w w.length) (hk : k + 1 < w.length) : (-3600000000000 <= du0 w k 0 /\ du0 w k 0 <= 3600000000000) /\ -7200000000000 <= (w.drop 1).getD k 0 /\ (w.drop 1).getD k 0 <= 7200000000000 := by
 have e : du0 w k 0 = 0 - pw w k := by unfold du0; rw [V2]
 have a1 := pw_bd (w := w) (k := k);have a2 := pw_bd (w := w) (k := k + 1);have a3 := wok_le h (k := k + 1) (by omega);have a4 := wok_le h (k := k + 1 + 1) (by omega);have a5 : pw w (k + 1) = pw w k + (w.drop 1).getD k 0 := rfl;omega
theorem tw_bd {t : Nat -> Int} {n : Int} {σ : Nat -> Cm} {K : Nat} (h : ∀ i, i < K -> 0 <= t i /\ t i <= 230400000000000) (hn : 0 <= n /\ n <= 3600000000000) : ∀ {m i : Nat}, i < K -> -3600000000000 * (m : Int) <= twT t n σ m i /\ twT t n σ m i <= 230400000000000 + 3600000000000 * (m : Int)
 | 0, i, hi => by have := h i hi; show _ <= t i /\ t i <= _; omega
 | m + 1, i, hi => by
  have ih := tw_bd h hn (σ := σ) (m := m) hi;show _ <= Z2 _ _ _ i /\ Z2 _ _ _ i <= _;by_cases e : i = (σ m).lim
  ·rw [e, V2]
   rw [e] at ih;split <;> omega
  ·rw [Q1 e]; omega
theorem tw_yes {t : Nat -> Int} {n : Int} {σ : Nat -> Cm} {m : Nat} (h : (σ m).bk = true) : Z2 (twT t n σ m) (σ m).lim (twT t n σ m (σ m).lim - n) = twT t n σ (m + 1) := by
 show _ = Z2 _ _ (if (σ m).bk = true then _ else _);rw [if_pos h]
theorem tw_no {t : Nat -> Int} {n : Int} {σ : Nat -> Cm} {m : Nat} (h : (σ m).bk = false) : Z2 (twT t n σ m) (σ m).lim (twT t n σ m (σ m).lim + n) = twT t n σ (m + 1) := by
 show _ = Z2 _ _ (if (σ m).bk = true then _ else _);rw [if_neg (by rw [h]; decide)]
theorem nm_yes {t : Nat -> Int} {σ : Nat -> Cm} {z : Int} {m : Nat} (h : (σ m).bk = true) : min (nmV t σ z m) (t (σ m).lim) = nmV t σ z (m + 1) := (if_pos h).symm
theorem nm_no {t : Nat -> Int} {σ : Nat -> Cm} {z : Int} {m : Nat} (h : (σ m).bk = false) : nmV t σ z m = nmV t σ z (m + 1) := (if_neg (by rw [h]; decide)).symm
theorem rv_end {g : Tp} {vz m i : Nat} {τ : Nat -> Cm} (h : Rv3 (fun j => g.cm (chn g vz j)) τ m i) (hi : ¬ i < m - i) : cml τ (m + 1) = cml (stp' g vz (m + 1)) (m + 1) := cml_ext (fun j hj => by
 rw [h.done hi j (by omega)];show g.cm (chn g vz (m - j)) = g.cm (chn g vz (m + 1 - 1 - j));rw [show m + 1 - 1 - j = m - j by omega])
theorem cn_next {g h : Tp} {v0 M : Nat} (e : h.lf = Z2 g.lf v0 true) (hv : g.lf v0 = false) (hlt : v0 < M + 1) : M + 1 - cnB h.lf (M + 1) < M + 1 - cnB g.lf (M + 1) := by
 have h1 := cnB_lt hv hlt;rw [e, cnB_upd hv hlt]; omega
theorem nd_next {g h : Tp} {v0 M : Nat} {D : Nat -> Int} {P : Int} (e : h.lf = Z2 g.lf v0 true) (hnd : ∀ v, v < M + 1 -> g.lf v = true -> D v < P) (h0 : ¬ P <= D v0) : ∀ v, v < M + 1 -> h.lf v = true -> D v < P := fun v hv hl => by
 rw [e] at hl;by_cases q : v = v0
 ·rw [q]; omega
 ·rw [Q1 q] at hl; exact hnd v hv hl
theorem dj_first {ts : List (List Int)} {M : Nat} {t p D : Nat -> Int} {P U : Int} (hU : ∀ v, v < M + 1 -> D v <= -P -> p v <= U) : Dj ts (M + 1) t p (fun v => D v <= -P) U (stT D P (M + 1)) (fun _ => 0) := by
 obtain ⟨h1, h2, h3⟩ := st_at (D := D) (P := P) (k := M + 1);exact Dj.start h1 h2 (fun v _ => h3 v) hU
theorem nd_first {M : Nat} {D : Nat -> Int} {P : Int} : ∀ v, v < M + 1 -> (stT D P (M + 1)).lf v = true -> D v < P := fun v _ hl => by
 rw [(st_at (D := D) (P := P) (k := M + 1)).2.2 v] at hl; cases hl
theorem way_go {ts : List (List Int)} {N : Nat} {t p D : Nat -> Int} {P U : Int} {g : Tp} {rk : Nat -> Nat} {vz : Nat} (hj : Dj ts N t p (fun v => D v <= -P) U g rk) (hv : vz < N) (hf : ¬ g.pr vz = 1000000000) (hP : 0 < P) (hd : P <= D vz) : ¬ (g.cm vz).fr = -1 := by
 rcases hj.cam vz hv hf with q | ⟨u, _, _, u3, _⟩
 ·have q : D vz <= -P := q
  omega
 ·have := u3.fr; omega
section
variable {X : FuncId -> List Value -> St -> (Value -> St -> Bool) -> Bool}
end
end Ev
end Go.Proofs.YtoeklhdklcpllaaGreat
