import Derived.Test.YtfhfjcfhanmbiaaGreatZb06
set_option linter.unusedVariables false
set_option linter.unusedSimpArgs false
/- Contracts: weights. -/
namespace Go.Proofs.YtfhfjcfhanmbiaaGreat
open Go Go.RowKit
namespace Ev
theorem many_ne {l : List Int} {i : Nat} (h : many l i = 2) : ¬ rat (l.getD (i + 1) 0 - l.getD i 0) (l.getD (i + 2) 0 - l.getD (i + 1) 0) = 0 := fun q => by
 rw [many_one2 q] at h; cases h
theorem rat_pos {a b : Int} (h : ¬ rat a b = 0) : rat a b = 1 ∨ rat a b = 2 ∨ rat a b = 3 := by
 rcases rat_cases a b with q | q
 ·exact absurd q h
 ·exact q
def step1 (l w : List Int) (i : Nat) : List Int :=
 (w.set i (w.getD i 0 + 18 * (l.getD (i + 1) 0 - l.getD i 0))).set (i + 1) (w.getD (i + 1) 0 + 18 * (l.getD (i + 1) 0 - l.getD i 0))
def unitK (a b k : Int) : Int := Int.tdiv 6 k * (1 + k) * min a b
def step2 (l w : List Int) (i : Nat) (k : Int) : List Int :=
 let c := unitK (l.getD (i + 1) 0 - l.getD i 0) (l.getD (i + 2) 0 - l.getD (i + 1) 0) k
 if l.getD (i + 2) 0 - l.getD (i + 1) 0 < l.getD (i + 1) 0 - l.getD i 0 then
  ((w.set i (w.getD i 0 + c * (2 * k - 1))).set (i + 1) (w.getD (i + 1) 0 + c * (1 + k) * (1 + k))).set (i + 2) (w.getD (i + 2) 0 + c * k * (2 - k))
 else ((w.set i (w.getD i 0 + c * k * (2 - k))).set (i + 1) (w.getD (i + 1) 0 + c * (1 + k) * (1 + k))).set (i + 2) (w.getD (i + 2) 0 + c * (2 * k - 1))
def stepW (l w : List Int) (p : Nat × Nat) : List Int :=
 if p.2 = 1 then step1 l w p.1 else step2 l w p.1 (rat (l.getD (p.1 + 1) 0 - l.getD p.1 0) (l.getD (p.1 + 2) 0 - l.getD (p.1 + 1) 0))
def W (l : List Int) (k : Nat) : List Int := ((grs l 0).take k).foldl (stepW l) (List.replicate l.length 0)
def wts (l : List Int) : List Int := (grs l 0).foldl (stepW l) (List.replicate l.length 0)
theorem step_len {l w : List Int} {p : Nat × Nat} : (stepW l w p).length = w.length := by
 unfold stepW step1 step2
 split
 ·simp
 ·split <;> simp
theorem W_succ {l : List Int} {k : Nat} {p : Nat × Nat} (h : (grs l 0)[k]? = some p) : W l (k + 1) = stepW l (W l k) p := by
 unfold W
 rw [List.take_add_one, h, List.foldl_append]; rfl
theorem W_one {l : List Int} {k i m : Nat} (h : (grs l 0)[k]? = some (i, m)) (hm : m = 1) : W l (k + 1) = step1 l (W l k) i := by
 rw [W_succ h]; unfold stepW; rw [if_pos hm]
theorem W_two {l : List Int} {k i m : Nat} {r : Int} (h : (grs l 0)[k]? = some (i, m)) (hm : m = 2) (hr : rat (l.getD (i + 1) 0 - l.getD i 0) (l.getD (i + 2) 0 - l.getD (i + 1) 0) = r) : W l (k + 1) = step2 l (W l k) i r := by
 rw [W_succ h]; unfold stepW; rw [if_neg (by show ¬ m = 1; omega)]; show step2 l (W l k) i (rat _ _) = _; rw [hr]
theorem wlen {l : List Int} : ∀ {k : Nat}, (W l k).length = l.length := by
 have key : ∀ (G : List (Nat × Nat)) (w : List Int), (G.foldl (stepW l) w).length = w.length := by
  intro G
  induction G with
  | nil => intro w; rfl
  | cons p G ih => intro w; rw [List.foldl_cons, ih, step_len]
 intro k
 unfold W
 rw [key]; simp
theorem W_end {l : List Int} {k : Nat} (h : (grs l 0).length ≤ k) : W l k = wts l := by unfold W wts; rw [List.take_of_length_le h]
theorem wts_len {l : List Int} : (wts l).length = l.length := by rw [← W_end (Nat.le_refl _)]; exact wlen
def Bd (w : List Int) (M : Int) : Prop := ∀ j, -M ≤ w.getD j 0 ∧ w.getD j 0 ≤ M
theorem bd_set {w : List Int} {M : Int} {i : Nat} {v : Int} (h : Bd w M) (hv : -M ≤ v ∧ v ≤ M) : Bd (w.set i v) M := by
 intro j
 by_cases hij : i = j
 ·subst hij
  by_cases hi : i < w.length
  ·have : (w.set i v).getD i 0 = v := by simp [List.getD_eq_getElem?_getD, hi]
   rw [this]; exact hv
  ·rw [List.set_eq_of_length_le (by omega)]; exact h i
 ·rw [getD_set_ne hij]; exact h j
theorem step_bd {l w : List Int} {p : Nat × Nat} {M : Int} (hp : Plc 9 100000 l) (hin : p.1 + p.2 < l.length) (hm : many l p.1 = p.2) (h0 : 0 ≤ M) (h : Bd w M) : Bd (stepW l w p) (M + 20000000) := by
 have hN : Bd w (M + 20000000) := fun j => by have := h j; omega
 obtain ⟨i, m⟩ := p
 have z0 := hp.lo i
 have z1 := hp.lo (i + 1)
 have z2 := hp.lo (i + 2)
 have b0 := h i
 have b1 := h (i + 1)
 have b2 := h (i + 2)
 have hm' : many l i = m := hm
 have hin' : i + m < l.length := hin
 unfold stepW
 rcases many_cases l i with q | q
 ·rw [if_pos (by show m = 1; omega)]
  show Bd (step1 l w i) _
  unfold step1
  exact bd_set (bd_set hN (by omega)) (by omega)
 ·rw [if_neg (by show ¬ m = 1; omega)]
  have r0 := hp.rise i (by omega)
  have r1 := hp.rise (i + 1) (by omega)
  show Bd (step2 l w i (rat _ _)) _
  rcases rat_pos (many_ne q) with hk | hk | hk
  ·rw [hk]
   unfold step2
   have hu : unitK (l.getD (i + 1) 0 - l.getD i 0) (l.getD (i + 2) 0 - l.getD (i + 1) 0) 1 = 12 * min (l.getD (i + 1) 0 - l.getD i 0) (l.getD (i + 2) 0 - l.getD (i + 1) 0) := rfl
   rw [hu]
   split <;> exact bd_set (bd_set (bd_set hN (by omega)) (by omega)) (by omega)
  ·rw [hk]
   unfold step2
   have hu : unitK (l.getD (i + 1) 0 - l.getD i 0) (l.getD (i + 2) 0 - l.getD (i + 1) 0) 2 = 9 * min (l.getD (i + 1) 0 - l.getD i 0) (l.getD (i + 2) 0 - l.getD (i + 1) 0) := rfl
   rw [hu]
   split <;> exact bd_set (bd_set (bd_set hN (by omega)) (by omega)) (by omega)
  ·rw [hk]
   unfold step2
   have hu : unitK (l.getD (i + 1) 0 - l.getD i 0) (l.getD (i + 2) 0 - l.getD (i + 1) 0) 3 = 8 * min (l.getD (i + 1) 0 - l.getD i 0) (l.getD (i + 2) 0 - l.getD (i + 1) 0) := rfl
   rw [hu]
   split <;> exact bd_set (bd_set (bd_set hN (by omega)) (by omega)) (by omega)
theorem gr_mem {l : List Int} {k : Nat} {p : Nat × Nat} (h : (grs l 0)[k]? = some p) : p.1 + p.2 < l.length ∧ many l p.1 = p.2 := gr_in l.length 0 (by omega) p (List.mem_of_getElem? h)
theorem W_bd {l : List Int} (hp : Plc 9 100000 l) : ∀ k : Nat, Bd (W l k) (20000000 * (k : Int))
 | 0 => fun j => by
  have : (W l 0).getD j 0 = 0 := by
   show (List.replicate l.length (0 : Int)).getD j 0 = 0
   rw [List.getD_eq_getElem?_getD, List.getElem?_replicate]
   split <;> rfl
  rw [this]; omega
 | k + 1 => by
  cases hk : (grs l 0)[k]? with
  | none =>
   have h1 : W l (k + 1) = W l k := by unfold W; rw [List.take_add_one, hk]; simp
   rw [h1]
   intro j
   have := W_bd hp k j
   omega
  | some p =>
   rw [W_succ hk]
   obtain ⟨h1, h2⟩ := gr_mem hk
   have := step_bd hp h1 h2 (by omega) (W_bd hp k)
   intro j
   have := this j
   omega
theorem wts_bd {l : List Int} (hp : Plc 9 100000 l) : Bd (wts l) 200000000 := by
 intro j
 have h1 := W_bd hp (grs l 0).length j
 rw [W_end (Nat.le_refl _)] at h1
 have := gr_len (l := l) l.length 0 (by omega)
 have := hp.hm
 omega
theorem get_some {α : Type} {l : List α} {k : Nat} (h : k < l.length) : ∃ p, l[k]? = some p := ⟨l[k], List.getElem?_eq_getElem h⟩
theorem flat2_seg {G : List (Nat × Nat)} {k i m : Nat} (h : G[k]? = some (i, m)) : segL (flat2 G) (0 + k * 2) 2 = some [.int .i64 (i : Int), .int .i64 (m : Int)] := by
 obtain ⟨h1, h2⟩ := flat2_get h
 rw [Nat.zero_add]
 simp only [segL, h1, h2]
theorem flat2_at0 {G : List (Nat × Nat)} {k i m : Nat} (h : G[k]? = some (i, m)) : (flat2 G)[0 + k * 2 + 0]? = some (.int .i64 (i : Int)) := by
 rw [Nat.zero_add]; exact (flat2_get h).1
theorem flat2_at1 {G : List (Nat × Nat)} {k i m : Nat} (h : G[k]? = some (i, m)) : (flat2 G)[0 + k * 2 + 1]? = some (.int .i64 (m : Int)) := by
 rw [Nat.zero_add]; exact (flat2_get h).2
section
variable {X : FuncId → List Value → St → (Value → St → Bool) → Bool}
theorem weightsOf_s (n : Nat) (a : Option Addr) (cap : Nat) (l : List Int) (s : St) (hs : Wf s) (hn : 562949953421312 ≤ n) (hl : IntsE s a l) (hp : Plc 9 100000 l) : Spec Tryz.prog (tabK tabw) X (n + 900) 129 [.slice a l.length cap] s (fun v A => ∃ b, v = .slice (some ⟨b, 0, none⟩) l.length l.length ∧ A = [.row b 3 false (ints (wts l))]) := by
 refine enter bw129_at rfl hs ?_
 unfold bw129
 have hlen := hl.len
 have hm9 := hp.hm
 have hG9 := gr_len (l := l) l.length 0 (by omega)
 refine r_seq (r_items (i_mv rfl rfl rfl (i_nil (then_n (r_seq (r_items (i_mv rfl rfl rfl ?_)))))))
 refine i_op (a_lenx rfl hl.spot ?_) rfl rfl
 refine i_op (a_mksI rfl rfl (by omega) (by omega) (by omega) (fun b1 => ?_)) rfl rfl
 refine i_op (a_build rfl rfl ?_) rfl rfl
 refine i_op (a_new rfl rfl (fun b2 => ?_)) rfl rfl
 refine i_opn (a_sta rfl rfl .here rfl rfl rfl rfl ?_) rfl
 refine i_nil (then_n (r_seq (r_items (i_mv rfl rfl rfl ?_))))
 refine i_op (a_fn rfl rfl ?_) rfl rfl
 refine i_op (a_inl rfl rfl bw161_at rfl ?_) rfl rfl
 unfold bw161
 refine r_seq (r_items (i_mv rfl rfl rfl ?_))
 refine i_op (a_call rfl rfl (fun s1 h1 => groupsOf_s _ _ _ _ s1 h1.wf (by omega) (hl.ext hs h1.2.1) hp) (fun v1 A1 q1 => ?_)) rfl rfl
 obtain ⟨b3, rfl, rfl⟩ := q1
 refine i_op (a_len rfl ?_) rfl rfl
 refine i_mv rfl rfl rfl (i_nil (then_n (r_block ?_)))
 refine r_loop (fun j e A => ∃ (k : Nat), e = [(0, .slice a l.length cap), (1, .func (.func 162) ⟨[.pointer (some ⟨b2, 0, none⟩)]⟩ ⟨[]⟩), (7, .slice (some ⟨b3, 0, none⟩) (grs l 0).length OPEN), (8, .int .i64 ((grs l 0).length : Int)), (9, .int .i64 (k : Int))] ∧ A = [.row b3 215 true (flat2 (grs l 0)), .row b2 208 false ([.slice (some ⟨b1, 0, none⟩) l.length l.length, .slice none 0 0, .int .i64 0]), .row b1 3 false (ints (W l k))] ∧ j = (grs l 0).length - k ∧ k ≤ (grs l 0).length) 400 0 281474976710656 ?_ (j := _) (env2 := _) (A2 := _) ?_ ?_ ?_ ?_ ⟨0, rfl, rfl, rfl, by omega⟩
 rotate_left
 ·omega
 ·omega
 ·exact (Less.cons rfl (Less.cons rfl (Less.cons rfl (Less.cons rfl (Less.cons rfl Less.nil)))))
 ·exact (.cons_cons _ (.cons_cons _ (.cons_cons _ .slnil)))
 rintro n hn j _ _ ⟨k, rfl, rfl, rfl, hkl⟩
 refine r_seq (r_items ?_)
 refine i_op (a_lss rfl rfl (fun h4 => ?_) (fun h4 => ?_)) rfl rfl
 ·obtain ⟨⟨i, m⟩, hgk⟩ := get_some (l := grs l 0) (k := k) (by omega)
  obtain ⟨hin, hmm⟩ := gr_mem hgk
  simp only at hin hmm
  have hmc := many_cases l i
  have z0 := hp.lo (i)
  have z1 := hp.lo (i + 1)
  have z2 := hp.lo (i + 2)
  have r0 : i + 1 < l.length → l.getD (i) 0 < l.getD (i + 1) 0 := fun h => hp.rise _ h
  have r1 : i + 2 < l.length → l.getD (i + 1) 0 < l.getD (i + 2) 0 := fun h => hp.rise _ h
  have hm9 := hp.hm
  have h29 := hp.h2
  have b0 := W_bd hp k i
  have b1 := W_bd hp k (i + 1)
  have b2 := W_bd hp k (i + 2)
  have hG9 := gr_len (l := l) l.length 0 (by omega)
  refine i_nil (then_n (r_seq (r_cond_t rfl (r_skip (then_n (r_seq (r_block (r_seq (r_items ?_)))))))))
  refine i_op (a_ia (j := k) rfl rfl (by omega) (by omega) ?_) rfl rfl
  refine i_op (a_lda rfl (by decide) .here (flat2_seg hgk) ?_) rfl rfl
  refine i_op (a_new rfl rfl (fun b5 => ?_)) rfl rfl
  refine i_opn (a_sta rfl rfl .here rfl rfl rfl rfl ?_) rfl
  refine i_nil (then_n (r_seq (r_items ?_)))
  refine i_op (a_fa rfl ?_) rfl rfl
  refine i_op (a_ld rfl .here rfl ?_) rfl rfl
  refine i_op (a_eql rfl rfl (fun h6 => ?_) (fun h6 => ?_)) rfl rfl
  ·have hm1 : m = 1 := by omega
   refine i_nil (then_n (r_cond_t rfl (r_items (i_mv rfl rfl rfl ?_))))
   refine i_op (a_fa rfl ?_) rfl rfl
   refine i_op (a_ld rfl .here rfl ?_) rfl rfl
   refine i_mv rfl rfl rfl ?_
   refine i_op (a_inl rfl rfl bw180_at rfl ?_) rfl rfl
   unfold bw180
   refine r_seq (r_items (i_mv rfl rfl rfl (i_mv rfl rfl rfl ?_)))
   refine i_op (a_add rfl rfl (by omega) ?_) rfl rfl
   refine i_op (a_iaI (j := i + 1) hl rfl rfl (by omega) (by simp) (by omega) (fun _ _ a7 => ?_)) rfl rfl
   refine i_op (a_ldr rfl (hl.at a7 (by omega)) ?_) rfl rfl
   refine i_mv rfl rfl rfl (i_mv rfl rfl rfl ?_)
   refine i_op (a_iaI (j := i) hl rfl rfl (by omega) (by simp) (by omega) (fun _ _ a8 => ?_)) rfl rfl
   refine i_op (a_ldr rfl (hl.at a8 (by omega)) ?_) rfl rfl
   refine i_op (a_sub rfl rfl (by omega) ?_) rfl rfl
   refine i_op (a_mul rfl rfl (by omega) ?_) rfl rfl
   refine i_mv rfl rfl rfl (i_nil (then_n (r_seq (r_items (i_mv rfl rfl rfl (i_mv rfl rfl rfl (i_mv rfl rfl rfl ?_)))))))
   refine i_op (a_inl rfl rfl bw162_at rfl ?_) rfl rfl
   unfold bw162
   refine r_items (i_mv rfl rfl rfl ?_)
   refine i_op (a_nilc rfl ?_) rfl rfl
   refine i_op (a_fa rfl ?_) rfl rfl
   refine i_op (a_ld rfl (.next (.next .here)) rfl ?_) rfl rfl
   refine i_mv rfl rfl rfl ?_
   refine i_op (a_ia (j := i) rfl rfl (by omega) (by omega) ?_) rfl rfl
   refine i_op (a_ldX (x := (W l k).getD (i) 0) rfl (.next (.next (.next .here))) (by simp [wlen]; omega) (by first | rfl | (rw [getD_set_ne (by omega), getD_set_ne (by omega)]; done) | (rw [getD_set_ne (by omega)]; done)) ?_) rfl rfl
   refine i_mv rfl rfl rfl ?_
   refine i_op (a_add rfl rfl (by omega) ?_) rfl rfl
   refine i_op (a_ia (j := i) rfl rfl (by omega) (by omega) ?_) rfl rfl
   refine i_opn (a_stI rfl rfl (.next (.next (.next .here))) (by first | omega | (simp [wlen]; omega) | (simp; omega)) ?_) rfl
   refine i_nil ?_
   refine endD0n .nil ?_
   refine i_nil (then_n (r_items (i_mv rfl rfl rfl (i_mv rfl rfl rfl ?_))))
   refine i_op (a_add rfl rfl (by omega) ?_) rfl rfl
   refine i_mv rfl rfl rfl ?_
   refine i_op (a_inl rfl rfl bw162_at rfl ?_) rfl rfl
   unfold bw162
   refine r_items (i_mv rfl rfl rfl ?_)
   refine i_op (a_nilc rfl ?_) rfl rfl
   refine i_op (a_fa rfl ?_) rfl rfl
   refine i_op (a_ld rfl (.next (.next .here)) rfl ?_) rfl rfl
   refine i_mv rfl rfl rfl ?_
   refine i_op (a_ia (j := i + 1) rfl rfl (by omega) (by omega) ?_) rfl rfl
   refine i_op (a_ldX (x := (W l k).getD (i + 1) 0) rfl (.next (.next (.next .here))) (by simp [wlen]; omega) (by first | rfl | (rw [getD_set_ne (by omega), getD_set_ne (by omega)]; done) | (rw [getD_set_ne (by omega)]; done)) ?_) rfl rfl
   refine i_mv rfl rfl rfl ?_
   refine i_op (a_add rfl rfl (by omega) ?_) rfl rfl
   refine i_op (a_ia (j := i + 1) rfl rfl (by omega) (by omega) ?_) rfl rfl
   refine i_opn (a_stI rfl rfl (.next (.next (.next .here))) (by first | omega | (simp [wlen]; omega) | (simp; omega)) ?_) rfl
   refine i_nil ?_
   refine endD0n .nil ?_
   refine i_nil ?_
   refine endD0n .nil ?_
   refine i_nil (block_n (then_n (r_items ?_)))
   refine i_op (a_add rfl rfl (by omega) ?_) rfl rfl
   refine i_mv rfl rfl rfl (i_nil (then_n ?_))
   exact ⟨rfl, _, _, _, (show (grs l 0).length - (k + 1) < (grs l 0).length - k by omega), (lc 0 rfl (lc 1 rfl (lc 7 rfl (lc 8 rfl (lc 9 rfl Less.nil))))), (.cons _ (.cons_cons _ (.cons_cons _ (.cons_cons _ .slnil)))), ⟨k + 1, rfl, (by first
  | (rw [W_one hgk hm1]; first | done | rfl)
  | (rw [W_two hgk hm2 hk]; unfold step2; dsimp only; rw [if_pos (by assumption)]; first | done | rfl)
  | (rw [W_two hgk hm2 hk]; unfold step2; dsimp only; rw [if_neg (by assumption)]; first | done | rfl)), rfl, by omega⟩⟩
  ·have hm2 : m = 2 := by omega
   have hrat := many_ne (hmm.trans hm2)
   refine i_nil (then_n (r_cond_f rfl (r_items (i_mv rfl rfl rfl ?_))))
   refine i_op (a_fa rfl ?_) rfl rfl
   refine i_op (a_ld rfl .here rfl ?_) rfl rfl
   refine i_mv rfl rfl rfl ?_
   refine i_op (a_inl rfl rfl bw181_at rfl ?_) rfl rfl
   unfold bw181
   refine r_seq (r_items (i_mv rfl rfl rfl (i_mv rfl rfl rfl ?_)))
   refine i_op (a_add rfl rfl (by omega) ?_) rfl rfl
   refine i_op (a_iaI (j := i + 1) hl rfl rfl (by omega) (by simp) (by omega) (fun _ _ a9 => ?_)) rfl rfl
   refine i_op (a_ldr rfl (hl.at a9 (by omega)) ?_) rfl rfl
   refine i_mv rfl rfl rfl (i_mv rfl rfl rfl ?_)
   refine i_op (a_iaI (j := i) hl rfl rfl (by omega) (by simp) (by omega) (fun _ _ a10 => ?_)) rfl rfl
   refine i_op (a_ldr rfl (hl.at a10 (by omega)) ?_) rfl rfl
   refine i_op (a_sub rfl rfl (by omega) ?_) rfl rfl
   refine i_mv rfl rfl rfl (i_mv rfl rfl rfl ?_)
   refine i_op (a_add rfl rfl (by omega) ?_) rfl rfl
   refine i_op (a_iaI (j := i + 2) hl rfl rfl (by omega) (by simp) (by omega) (fun _ _ a11 => ?_)) rfl rfl
   refine i_op (a_ldr rfl (hl.at a11 (by omega)) ?_) rfl rfl
   refine i_mv rfl rfl rfl (i_mv rfl rfl rfl ?_)
   refine i_op (a_add rfl rfl (by omega) ?_) rfl rfl
   refine i_op (a_iaI (j := i + 1) hl rfl rfl (by omega) (by simp) (by omega) (fun _ _ a12 => ?_)) rfl rfl
   refine i_op (a_ldr rfl (hl.at a12 (by omega)) ?_) rfl rfl
   refine i_op (a_sub rfl rfl (by omega) ?_) rfl rfl
   refine i_mv rfl rfl rfl (i_mv rfl rfl rfl (i_nil (then_n (r_seq (r_items (i_mv rfl rfl rfl (i_mv rfl rfl rfl ?_)))))))
   refine i_op (a_call rfl rfl (fun s1 h1 => ratio_s _ _ _ s1 h1.wf (by omega) (by omega)) (fun v1 A1 q1 => ?_)) rfl rfl
   obtain ⟨rfl, rfl⟩ := q1
   rcases rat_pos hrat with hk | hk | hk
   ·rw [hk]
    refine i_mv rfl rfl rfl (i_nil (then_n (r_seq (r_items (i_mv rfl rfl rfl ?_)))))
    refine i_op (a_quoc (q := 6) rfl rfl (by decide) rfl (by decide) ?_) rfl rfl
    refine i_mv rfl rfl rfl ?_
    refine i_op (a_add rfl rfl (by decide) ?_) rfl rfl
    refine i_op (a_mul rfl rfl (by decide) ?_) rfl rfl
    refine i_mv rfl rfl rfl (i_mv rfl rfl rfl ?_)
    refine i_op (a_min rfl ?_) rfl rfl
    refine i_op (a_mul rfl rfl (by omega) ?_) rfl rfl
    refine i_mv rfl rfl rfl (i_nil (then_n (r_seq (r_items (i_mv rfl rfl rfl (i_mv rfl rfl rfl ?_))))))
    refine i_op (a_mul rfl rfl (by omega) ?_) rfl rfl
    refine i_mv rfl rfl rfl ?_
    refine i_op (a_sub rfl rfl (by decide) ?_) rfl rfl
    refine i_op (a_mul rfl rfl (by omega) ?_) rfl rfl
    refine i_mv rfl rfl rfl (i_mv rfl rfl rfl ?_)
    refine i_op (a_mul rfl rfl (by decide) ?_) rfl rfl
    refine i_op (a_sub rfl rfl (by decide) ?_) rfl rfl
    refine i_op (a_mul rfl rfl (by omega) ?_) rfl rfl
    refine i_mv rfl rfl rfl (i_mv rfl rfl rfl (i_nil (then_n (r_seq (r_seq (r_items (i_mv rfl rfl rfl (i_mv rfl rfl rfl ?_))))))))
    refine i_op (a_gtr rfl rfl (fun h13 => ?_) (fun h13 => ?_)) rfl rfl
    ·refine i_nil (then_n (r_cond_t rfl (r_items (i_mv rfl rfl rfl (i_mv rfl rfl rfl (i_mv rfl rfl rfl (i_mv rfl rfl rfl (i_nil (then_n (r_seq (r_items (i_mv rfl rfl rfl (i_mv rfl rfl rfl (i_mv rfl rfl rfl ?_))))))))))))))
     refine i_op (a_inl rfl rfl bw162_at rfl ?_) rfl rfl
     unfold bw162
     refine r_items (i_mv rfl rfl rfl ?_)
     refine i_op (a_nilc rfl ?_) rfl rfl
     refine i_op (a_fa rfl ?_) rfl rfl
     refine i_op (a_ld rfl (.next (.next .here)) rfl ?_) rfl rfl
     refine i_mv rfl rfl rfl ?_
     refine i_op (a_ia (j := i) rfl rfl (by omega) (by omega) ?_) rfl rfl
     refine i_op (a_ldX (x := (W l k).getD (i) 0) rfl (.next (.next (.next .here))) (by simp [wlen]; omega) (by first | rfl | (rw [getD_set_ne (by omega), getD_set_ne (by omega)]; done) | (rw [getD_set_ne (by omega)]; done)) ?_) rfl rfl
     refine i_mv rfl rfl rfl ?_
     refine i_op (a_add rfl rfl (by omega) ?_) rfl rfl
     refine i_op (a_ia (j := i) rfl rfl (by omega) (by omega) ?_) rfl rfl
     refine i_opn (a_stI rfl rfl (.next (.next (.next .here))) (by first | omega | (simp [wlen]; omega) | (simp; omega)) ?_) rfl
     refine i_nil ?_
     refine endD0n .nil ?_
     refine i_nil (then_n (r_seq (r_items (i_mv rfl rfl rfl (i_mv rfl rfl rfl ?_)))))
     refine i_op (a_add rfl rfl (by omega) ?_) rfl rfl
     refine i_mv rfl rfl rfl (i_mv rfl rfl rfl ?_)
     refine i_op (a_add rfl rfl (by decide) ?_) rfl rfl
     refine i_op (a_mul rfl rfl (by omega) ?_) rfl rfl
     refine i_mv rfl rfl rfl ?_
     refine i_op (a_add rfl rfl (by decide) ?_) rfl rfl
     refine i_op (a_mul rfl rfl (by omega) ?_) rfl rfl
     refine i_op (a_inl rfl rfl bw162_at rfl ?_) rfl rfl
     unfold bw162
     refine r_items (i_mv rfl rfl rfl ?_)
     refine i_op (a_nilc rfl ?_) rfl rfl
     refine i_op (a_fa rfl ?_) rfl rfl
     refine i_op (a_ld rfl (.next (.next .here)) rfl ?_) rfl rfl
     refine i_mv rfl rfl rfl ?_
     refine i_op (a_ia (j := i + 1) rfl rfl (by omega) (by omega) ?_) rfl rfl
     refine i_op (a_ldX (x := (W l k).getD (i + 1) 0) rfl (.next (.next (.next .here))) (by simp [wlen]; omega) (by first | rfl | (rw [getD_set_ne (by omega), getD_set_ne (by omega)]; done) | (rw [getD_set_ne (by omega)]; done)) ?_) rfl rfl
     refine i_mv rfl rfl rfl ?_
     refine i_op (a_add rfl rfl (by omega) ?_) rfl rfl
     refine i_op (a_ia (j := i + 1) rfl rfl (by omega) (by omega) ?_) rfl rfl
     refine i_opn (a_stI rfl rfl (.next (.next (.next .here))) (by first | omega | (simp [wlen]; omega) | (simp; omega)) ?_) rfl
     refine i_nil ?_
     refine endD0n .nil ?_
     refine i_nil (then_n (r_items (i_mv rfl rfl rfl (i_mv rfl rfl rfl ?_))))
     refine i_op (a_add rfl rfl (by omega) ?_) rfl rfl
     refine i_mv rfl rfl rfl ?_
     refine i_op (a_inl rfl rfl bw162_at rfl ?_) rfl rfl
     unfold bw162
     refine r_items (i_mv rfl rfl rfl ?_)
     refine i_op (a_nilc rfl ?_) rfl rfl
     refine i_op (a_fa rfl ?_) rfl rfl
     refine i_op (a_ld rfl (.next (.next .here)) rfl ?_) rfl rfl
     refine i_mv rfl rfl rfl ?_
     refine i_op (a_ia (j := i + 2) rfl rfl (by omega) (by omega) ?_) rfl rfl
     refine i_op (a_ldX (x := (W l k).getD (i + 2) 0) rfl (.next (.next (.next .here))) (by simp [wlen]; omega) (by first | rfl | (rw [getD_set_ne (by omega), getD_set_ne (by omega)]; done) | (rw [getD_set_ne (by omega)]; done)) ?_) rfl rfl
     refine i_mv rfl rfl rfl ?_
     refine i_op (a_add rfl rfl (by omega) ?_) rfl rfl
     refine i_op (a_ia (j := i + 2) rfl rfl (by omega) (by omega) ?_) rfl rfl
     refine i_opn (a_stI rfl rfl (.next (.next (.next .here))) (by first | omega | (simp [wlen]; omega) | (simp; omega)) ?_) rfl
     refine i_nil ?_
     refine endD0n .nil ?_
     refine i_nil ?_
     refine endD0n .nil ?_
     refine i_nil (block_n (then_n (r_items ?_)))
     refine i_op (a_add rfl rfl (by omega) ?_) rfl rfl
     refine i_mv rfl rfl rfl (i_nil (then_n ?_))
     exact ⟨rfl, _, _, _, (show (grs l 0).length - (k + 1) < (grs l 0).length - k by omega), (lc 0 rfl (lc 1 rfl (lc 7 rfl (lc 8 rfl (lc 9 rfl Less.nil))))), (.cons _ (.cons_cons _ (.cons_cons _ (.cons_cons _ .slnil)))), ⟨k + 1, rfl, (by first
  | (rw [W_one hgk hm1]; first | done | rfl)
  | (rw [W_two hgk hm2 hk]; unfold step2; dsimp only; rw [if_pos (by assumption)]; first | done | rfl)
  | (rw [W_two hgk hm2 hk]; unfold step2; dsimp only; rw [if_neg (by assumption)]; first | done | rfl)), rfl, by omega⟩⟩
    ·refine i_nil (then_n (r_cond_f rfl (r_skip (then_n (r_seq (r_items (i_mv rfl rfl rfl (i_mv rfl rfl rfl (i_mv rfl rfl rfl ?_)))))))))
     refine i_op (a_inl rfl rfl bw162_at rfl ?_) rfl rfl
     unfold bw162
     refine r_items (i_mv rfl rfl rfl ?_)
     refine i_op (a_nilc rfl ?_) rfl rfl
     refine i_op (a_fa rfl ?_) rfl rfl
     refine i_op (a_ld rfl (.next (.next .here)) rfl ?_) rfl rfl
     refine i_mv rfl rfl rfl ?_
     refine i_op (a_ia (j := i) rfl rfl (by omega) (by omega) ?_) rfl rfl
     refine i_op (a_ldX (x := (W l k).getD (i) 0) rfl (.next (.next (.next .here))) (by simp [wlen]; omega) (by first | rfl | (rw [getD_set_ne (by omega), getD_set_ne (by omega)]; done) | (rw [getD_set_ne (by omega)]; done)) ?_) rfl rfl
     refine i_mv rfl rfl rfl ?_
     refine i_op (a_add rfl rfl (by omega) ?_) rfl rfl
     refine i_op (a_ia (j := i) rfl rfl (by omega) (by omega) ?_) rfl rfl
     refine i_opn (a_stI rfl rfl (.next (.next (.next .here))) (by first | omega | (simp [wlen]; omega) | (simp; omega)) ?_) rfl
     refine i_nil ?_
     refine endD0n .nil ?_
     refine i_nil (then_n (r_seq (r_items (i_mv rfl rfl rfl (i_mv rfl rfl rfl ?_)))))
     refine i_op (a_add rfl rfl (by omega) ?_) rfl rfl
     refine i_mv rfl rfl rfl (i_mv rfl rfl rfl ?_)
     refine i_op (a_add rfl rfl (by decide) ?_) rfl rfl
     refine i_op (a_mul rfl rfl (by omega) ?_) rfl rfl
     refine i_mv rfl rfl rfl ?_
     refine i_op (a_add rfl rfl (by decide) ?_) rfl rfl
     refine i_op (a_mul rfl rfl (by omega) ?_) rfl rfl
     refine i_op (a_inl rfl rfl bw162_at rfl ?_) rfl rfl
     unfold bw162
     refine r_items (i_mv rfl rfl rfl ?_)
     refine i_op (a_nilc rfl ?_) rfl rfl
     refine i_op (a_fa rfl ?_) rfl rfl
     refine i_op (a_ld rfl (.next (.next .here)) rfl ?_) rfl rfl
     refine i_mv rfl rfl rfl ?_
     refine i_op (a_ia (j := i + 1) rfl rfl (by omega) (by omega) ?_) rfl rfl
     refine i_op (a_ldX (x := (W l k).getD (i + 1) 0) rfl (.next (.next (.next .here))) (by simp [wlen]; omega) (by first | rfl | (rw [getD_set_ne (by omega), getD_set_ne (by omega)]; done) | (rw [getD_set_ne (by omega)]; done)) ?_) rfl rfl
     refine i_mv rfl rfl rfl ?_
     refine i_op (a_add rfl rfl (by omega) ?_) rfl rfl
     refine i_op (a_ia (j := i + 1) rfl rfl (by omega) (by omega) ?_) rfl rfl
     refine i_opn (a_stI rfl rfl (.next (.next (.next .here))) (by first | omega | (simp [wlen]; omega) | (simp; omega)) ?_) rfl
     refine i_nil ?_
     refine endD0n .nil ?_
     refine i_nil (then_n (r_items (i_mv rfl rfl rfl (i_mv rfl rfl rfl ?_))))
     refine i_op (a_add rfl rfl (by omega) ?_) rfl rfl
     refine i_mv rfl rfl rfl ?_
     refine i_op (a_inl rfl rfl bw162_at rfl ?_) rfl rfl
     unfold bw162
     refine r_items (i_mv rfl rfl rfl ?_)
     refine i_op (a_nilc rfl ?_) rfl rfl
     refine i_op (a_fa rfl ?_) rfl rfl
     refine i_op (a_ld rfl (.next (.next .here)) rfl ?_) rfl rfl
     refine i_mv rfl rfl rfl ?_
     refine i_op (a_ia (j := i + 2) rfl rfl (by omega) (by omega) ?_) rfl rfl
     refine i_op (a_ldX (x := (W l k).getD (i + 2) 0) rfl (.next (.next (.next .here))) (by simp [wlen]; omega) (by first | rfl | (rw [getD_set_ne (by omega), getD_set_ne (by omega)]; done) | (rw [getD_set_ne (by omega)]; done)) ?_) rfl rfl
     refine i_mv rfl rfl rfl ?_
     refine i_op (a_add rfl rfl (by omega) ?_) rfl rfl
     refine i_op (a_ia (j := i + 2) rfl rfl (by omega) (by omega) ?_) rfl rfl
     refine i_opn (a_stI rfl rfl (.next (.next (.next .here))) (by first | omega | (simp [wlen]; omega) | (simp; omega)) ?_) rfl
     refine i_nil ?_
     refine endD0n .nil ?_
     refine i_nil ?_
     refine endD0n .nil ?_
     refine i_nil (block_n (then_n (r_items ?_)))
     refine i_op (a_add rfl rfl (by omega) ?_) rfl rfl
     refine i_mv rfl rfl rfl (i_nil (then_n ?_))
     exact ⟨rfl, _, _, _, (show (grs l 0).length - (k + 1) < (grs l 0).length - k by omega), (lc 0 rfl (lc 1 rfl (lc 7 rfl (lc 8 rfl (lc 9 rfl Less.nil))))), (.cons _ (.cons_cons _ (.cons_cons _ (.cons_cons _ .slnil)))), ⟨k + 1, rfl, (by first
  | (rw [W_one hgk hm1]; first | done | rfl)
  | (rw [W_two hgk hm2 hk]; unfold step2; dsimp only; rw [if_pos (by assumption)]; first | done | rfl)
  | (rw [W_two hgk hm2 hk]; unfold step2; dsimp only; rw [if_neg (by assumption)]; first | done | rfl)), rfl, by omega⟩⟩
   ·rw [hk]
    refine i_mv rfl rfl rfl (i_nil (then_n (r_seq (r_items (i_mv rfl rfl rfl ?_)))))
    refine i_op (a_quoc (q := 3) rfl rfl (by decide) rfl (by decide) ?_) rfl rfl
    refine i_mv rfl rfl rfl ?_
    refine i_op (a_add rfl rfl (by decide) ?_) rfl rfl
    refine i_op (a_mul rfl rfl (by decide) ?_) rfl rfl
    refine i_mv rfl rfl rfl (i_mv rfl rfl rfl ?_)
    refine i_op (a_min rfl ?_) rfl rfl
    refine i_op (a_mul rfl rfl (by omega) ?_) rfl rfl
    refine i_mv rfl rfl rfl (i_nil (then_n (r_seq (r_items (i_mv rfl rfl rfl (i_mv rfl rfl rfl ?_))))))
    refine i_op (a_mul rfl rfl (by omega) ?_) rfl rfl
    refine i_mv rfl rfl rfl ?_
    refine i_op (a_sub rfl rfl (by decide) ?_) rfl rfl
    refine i_op (a_mul rfl rfl (by omega) ?_) rfl rfl
    refine i_mv rfl rfl rfl (i_mv rfl rfl rfl ?_)
    refine i_op (a_mul rfl rfl (by decide) ?_) rfl rfl
    refine i_op (a_sub rfl rfl (by decide) ?_) rfl rfl
    refine i_op (a_mul rfl rfl (by omega) ?_) rfl rfl
    refine i_mv rfl rfl rfl (i_mv rfl rfl rfl (i_nil (then_n (r_seq (r_seq (r_items (i_mv rfl rfl rfl (i_mv rfl rfl rfl ?_))))))))
    refine i_op (a_gtr rfl rfl (fun h14 => ?_) (fun h14 => ?_)) rfl rfl
    ·refine i_nil (then_n (r_cond_t rfl (r_items (i_mv rfl rfl rfl (i_mv rfl rfl rfl (i_mv rfl rfl rfl (i_mv rfl rfl rfl (i_nil (then_n (r_seq (r_items (i_mv rfl rfl rfl (i_mv rfl rfl rfl (i_mv rfl rfl rfl ?_))))))))))))))
     refine i_op (a_inl rfl rfl bw162_at rfl ?_) rfl rfl
     unfold bw162
     refine r_items (i_mv rfl rfl rfl ?_)
     refine i_op (a_nilc rfl ?_) rfl rfl
     refine i_op (a_fa rfl ?_) rfl rfl
     refine i_op (a_ld rfl (.next (.next .here)) rfl ?_) rfl rfl
     refine i_mv rfl rfl rfl ?_
     refine i_op (a_ia (j := i) rfl rfl (by omega) (by omega) ?_) rfl rfl
     refine i_op (a_ldX (x := (W l k).getD (i) 0) rfl (.next (.next (.next .here))) (by simp [wlen]; omega) (by first | rfl | (rw [getD_set_ne (by omega), getD_set_ne (by omega)]; done) | (rw [getD_set_ne (by omega)]; done)) ?_) rfl rfl
     refine i_mv rfl rfl rfl ?_
     refine i_op (a_add rfl rfl (by omega) ?_) rfl rfl
     refine i_op (a_ia (j := i) rfl rfl (by omega) (by omega) ?_) rfl rfl
     refine i_opn (a_stI rfl rfl (.next (.next (.next .here))) (by first | omega | (simp [wlen]; omega) | (simp; omega)) ?_) rfl
     refine i_nil ?_
     refine endD0n .nil ?_
     refine i_nil (then_n (r_seq (r_items (i_mv rfl rfl rfl (i_mv rfl rfl rfl ?_)))))
     refine i_op (a_add rfl rfl (by omega) ?_) rfl rfl
     refine i_mv rfl rfl rfl (i_mv rfl rfl rfl ?_)
     refine i_op (a_add rfl rfl (by decide) ?_) rfl rfl
     refine i_op (a_mul rfl rfl (by omega) ?_) rfl rfl
     refine i_mv rfl rfl rfl ?_
     refine i_op (a_add rfl rfl (by decide) ?_) rfl rfl
     refine i_op (a_mul rfl rfl (by omega) ?_) rfl rfl
     refine i_op (a_inl rfl rfl bw162_at rfl ?_) rfl rfl
     unfold bw162
     refine r_items (i_mv rfl rfl rfl ?_)
     refine i_op (a_nilc rfl ?_) rfl rfl
     refine i_op (a_fa rfl ?_) rfl rfl
     refine i_op (a_ld rfl (.next (.next .here)) rfl ?_) rfl rfl
     refine i_mv rfl rfl rfl ?_
     refine i_op (a_ia (j := i + 1) rfl rfl (by omega) (by omega) ?_) rfl rfl
     refine i_op (a_ldX (x := (W l k).getD (i + 1) 0) rfl (.next (.next (.next .here))) (by simp [wlen]; omega) (by first | rfl | (rw [getD_set_ne (by omega), getD_set_ne (by omega)]; done) | (rw [getD_set_ne (by omega)]; done)) ?_) rfl rfl
     refine i_mv rfl rfl rfl ?_
     refine i_op (a_add rfl rfl (by omega) ?_) rfl rfl
     refine i_op (a_ia (j := i + 1) rfl rfl (by omega) (by omega) ?_) rfl rfl
     refine i_opn (a_stI rfl rfl (.next (.next (.next .here))) (by first | omega | (simp [wlen]; omega) | (simp; omega)) ?_) rfl
     refine i_nil ?_
     refine endD0n .nil ?_
     refine i_nil (then_n (r_items (i_mv rfl rfl rfl (i_mv rfl rfl rfl ?_))))
     refine i_op (a_add rfl rfl (by omega) ?_) rfl rfl
     refine i_mv rfl rfl rfl ?_
     refine i_op (a_inl rfl rfl bw162_at rfl ?_) rfl rfl
     unfold bw162
     refine r_items (i_mv rfl rfl rfl ?_)
     refine i_op (a_nilc rfl ?_) rfl rfl
     refine i_op (a_fa rfl ?_) rfl rfl
     refine i_op (a_ld rfl (.next (.next .here)) rfl ?_) rfl rfl
     refine i_mv rfl rfl rfl ?_
     refine i_op (a_ia (j := i + 2) rfl rfl (by omega) (by omega) ?_) rfl rfl
     refine i_op (a_ldX (x := (W l k).getD (i + 2) 0) rfl (.next (.next (.next .here))) (by simp [wlen]; omega) (by first | rfl | (rw [getD_set_ne (by omega), getD_set_ne (by omega)]; done) | (rw [getD_set_ne (by omega)]; done)) ?_) rfl rfl
     refine i_mv rfl rfl rfl ?_
     refine i_op (a_add rfl rfl (by omega) ?_) rfl rfl
     refine i_op (a_ia (j := i + 2) rfl rfl (by omega) (by omega) ?_) rfl rfl
     refine i_opn (a_stI rfl rfl (.next (.next (.next .here))) (by first | omega | (simp [wlen]; omega) | (simp; omega)) ?_) rfl
     refine i_nil ?_
     refine endD0n .nil ?_
     refine i_nil ?_
     refine endD0n .nil ?_
     refine i_nil (block_n (then_n (r_items ?_)))
     refine i_op (a_add rfl rfl (by omega) ?_) rfl rfl
     refine i_mv rfl rfl rfl (i_nil (then_n ?_))
     exact ⟨rfl, _, _, _, (show (grs l 0).length - (k + 1) < (grs l 0).length - k by omega), (lc 0 rfl (lc 1 rfl (lc 7 rfl (lc 8 rfl (lc 9 rfl Less.nil))))), (.cons _ (.cons_cons _ (.cons_cons _ (.cons_cons _ .slnil)))), ⟨k + 1, rfl, (by first
  | (rw [W_one hgk hm1]; first | done | rfl)
  | (rw [W_two hgk hm2 hk]; unfold step2; dsimp only; rw [if_pos (by assumption)]; first | done | rfl)
  | (rw [W_two hgk hm2 hk]; unfold step2; dsimp only; rw [if_neg (by assumption)]; first | done | rfl)), rfl, by omega⟩⟩
    ·refine i_nil (then_n (r_cond_f rfl (r_skip (then_n (r_seq (r_items (i_mv rfl rfl rfl (i_mv rfl rfl rfl (i_mv rfl rfl rfl ?_)))))))))
     refine i_op (a_inl rfl rfl bw162_at rfl ?_) rfl rfl
     unfold bw162
     refine r_items (i_mv rfl rfl rfl ?_)
     refine i_op (a_nilc rfl ?_) rfl rfl
     refine i_op (a_fa rfl ?_) rfl rfl
     refine i_op (a_ld rfl (.next (.next .here)) rfl ?_) rfl rfl
     refine i_mv rfl rfl rfl ?_
     refine i_op (a_ia (j := i) rfl rfl (by omega) (by omega) ?_) rfl rfl
     refine i_op (a_ldX (x := (W l k).getD (i) 0) rfl (.next (.next (.next .here))) (by simp [wlen]; omega) (by first | rfl | (rw [getD_set_ne (by omega), getD_set_ne (by omega)]; done) | (rw [getD_set_ne (by omega)]; done)) ?_) rfl rfl
     refine i_mv rfl rfl rfl ?_
     refine i_op (a_add rfl rfl (by omega) ?_) rfl rfl
     refine i_op (a_ia (j := i) rfl rfl (by omega) (by omega) ?_) rfl rfl
     refine i_opn (a_stI rfl rfl (.next (.next (.next .here))) (by first | omega | (simp [wlen]; omega) | (simp; omega)) ?_) rfl
     refine i_nil ?_
     refine endD0n .nil ?_
     refine i_nil (then_n (r_seq (r_items (i_mv rfl rfl rfl (i_mv rfl rfl rfl ?_)))))
     refine i_op (a_add rfl rfl (by omega) ?_) rfl rfl
     refine i_mv rfl rfl rfl (i_mv rfl rfl rfl ?_)
     refine i_op (a_add rfl rfl (by decide) ?_) rfl rfl
     refine i_op (a_mul rfl rfl (by omega) ?_) rfl rfl
     refine i_mv rfl rfl rfl ?_
     refine i_op (a_add rfl rfl (by decide) ?_) rfl rfl
     refine i_op (a_mul rfl rfl (by omega) ?_) rfl rfl
     refine i_op (a_inl rfl rfl bw162_at rfl ?_) rfl rfl
     unfold bw162
     refine r_items (i_mv rfl rfl rfl ?_)
     refine i_op (a_nilc rfl ?_) rfl rfl
     refine i_op (a_fa rfl ?_) rfl rfl
     refine i_op (a_ld rfl (.next (.next .here)) rfl ?_) rfl rfl
     refine i_mv rfl rfl rfl ?_
     refine i_op (a_ia (j := i + 1) rfl rfl (by omega) (by omega) ?_) rfl rfl
     refine i_op (a_ldX (x := (W l k).getD (i + 1) 0) rfl (.next (.next (.next .here))) (by simp [wlen]; omega) (by first | rfl | (rw [getD_set_ne (by omega), getD_set_ne (by omega)]; done) | (rw [getD_set_ne (by omega)]; done)) ?_) rfl rfl
     refine i_mv rfl rfl rfl ?_
     refine i_op (a_add rfl rfl (by omega) ?_) rfl rfl
     refine i_op (a_ia (j := i + 1) rfl rfl (by omega) (by omega) ?_) rfl rfl
     refine i_opn (a_stI rfl rfl (.next (.next (.next .here))) (by first | omega | (simp [wlen]; omega) | (simp; omega)) ?_) rfl
     refine i_nil ?_
     refine endD0n .nil ?_
     refine i_nil (then_n (r_items (i_mv rfl rfl rfl (i_mv rfl rfl rfl ?_))))
     refine i_op (a_add rfl rfl (by omega) ?_) rfl rfl
     refine i_mv rfl rfl rfl ?_
     refine i_op (a_inl rfl rfl bw162_at rfl ?_) rfl rfl
     unfold bw162
     refine r_items (i_mv rfl rfl rfl ?_)
     refine i_op (a_nilc rfl ?_) rfl rfl
     refine i_op (a_fa rfl ?_) rfl rfl
     refine i_op (a_ld rfl (.next (.next .here)) rfl ?_) rfl rfl
     refine i_mv rfl rfl rfl ?_
     refine i_op (a_ia (j := i + 2) rfl rfl (by omega) (by omega) ?_) rfl rfl
     refine i_op (a_ldX (x := (W l k).getD (i + 2) 0) rfl (.next (.next (.next .here))) (by simp [wlen]; omega) (by first | rfl | (rw [getD_set_ne (by omega), getD_set_ne (by omega)]; done) | (rw [getD_set_ne (by omega)]; done)) ?_) rfl rfl
     refine i_mv rfl rfl rfl ?_
     refine i_op (a_add rfl rfl (by omega) ?_) rfl rfl
     refine i_op (a_ia (j := i + 2) rfl rfl (by omega) (by omega) ?_) rfl rfl
     refine i_opn (a_stI rfl rfl (.next (.next (.next .here))) (by first | omega | (simp [wlen]; omega) | (simp; omega)) ?_) rfl
     refine i_nil ?_
     refine endD0n .nil ?_
     refine i_nil ?_
     refine endD0n .nil ?_
     refine i_nil (block_n (then_n (r_items ?_)))
     refine i_op (a_add rfl rfl (by omega) ?_) rfl rfl
     refine i_mv rfl rfl rfl (i_nil (then_n ?_))
     exact ⟨rfl, _, _, _, (show (grs l 0).length - (k + 1) < (grs l 0).length - k by omega), (lc 0 rfl (lc 1 rfl (lc 7 rfl (lc 8 rfl (lc 9 rfl Less.nil))))), (.cons _ (.cons_cons _ (.cons_cons _ (.cons_cons _ .slnil)))), ⟨k + 1, rfl, (by first
  | (rw [W_one hgk hm1]; first | done | rfl)
  | (rw [W_two hgk hm2 hk]; unfold step2; dsimp only; rw [if_pos (by assumption)]; first | done | rfl)
  | (rw [W_two hgk hm2 hk]; unfold step2; dsimp only; rw [if_neg (by assumption)]; first | done | rfl)), rfl, by omega⟩⟩
   ·rw [hk]
    refine i_mv rfl rfl rfl (i_nil (then_n (r_seq (r_items (i_mv rfl rfl rfl ?_)))))
    refine i_op (a_quoc (q := 2) rfl rfl (by decide) rfl (by decide) ?_) rfl rfl
    refine i_mv rfl rfl rfl ?_
    refine i_op (a_add rfl rfl (by decide) ?_) rfl rfl
    refine i_op (a_mul rfl rfl (by decide) ?_) rfl rfl
    refine i_mv rfl rfl rfl (i_mv rfl rfl rfl ?_)
    refine i_op (a_min rfl ?_) rfl rfl
    refine i_op (a_mul rfl rfl (by omega) ?_) rfl rfl
    refine i_mv rfl rfl rfl (i_nil (then_n (r_seq (r_items (i_mv rfl rfl rfl (i_mv rfl rfl rfl ?_))))))
    refine i_op (a_mul rfl rfl (by omega) ?_) rfl rfl
    refine i_mv rfl rfl rfl ?_
    refine i_op (a_sub rfl rfl (by decide) ?_) rfl rfl
    refine i_op (a_mul rfl rfl (by omega) ?_) rfl rfl
    refine i_mv rfl rfl rfl (i_mv rfl rfl rfl ?_)
    refine i_op (a_mul rfl rfl (by decide) ?_) rfl rfl
    refine i_op (a_sub rfl rfl (by decide) ?_) rfl rfl
    refine i_op (a_mul rfl rfl (by omega) ?_) rfl rfl
    refine i_mv rfl rfl rfl (i_mv rfl rfl rfl (i_nil (then_n (r_seq (r_seq (r_items (i_mv rfl rfl rfl (i_mv rfl rfl rfl ?_))))))))
    refine i_op (a_gtr rfl rfl (fun h15 => ?_) (fun h15 => ?_)) rfl rfl
    ·refine i_nil (then_n (r_cond_t rfl (r_items (i_mv rfl rfl rfl (i_mv rfl rfl rfl (i_mv rfl rfl rfl (i_mv rfl rfl rfl (i_nil (then_n (r_seq (r_items (i_mv rfl rfl rfl (i_mv rfl rfl rfl (i_mv rfl rfl rfl ?_))))))))))))))
     refine i_op (a_inl rfl rfl bw162_at rfl ?_) rfl rfl
     unfold bw162
     refine r_items (i_mv rfl rfl rfl ?_)
     refine i_op (a_nilc rfl ?_) rfl rfl
     refine i_op (a_fa rfl ?_) rfl rfl
     refine i_op (a_ld rfl (.next (.next .here)) rfl ?_) rfl rfl
     refine i_mv rfl rfl rfl ?_
     refine i_op (a_ia (j := i) rfl rfl (by omega) (by omega) ?_) rfl rfl
     refine i_op (a_ldX (x := (W l k).getD (i) 0) rfl (.next (.next (.next .here))) (by simp [wlen]; omega) (by first | rfl | (rw [getD_set_ne (by omega), getD_set_ne (by omega)]; done) | (rw [getD_set_ne (by omega)]; done)) ?_) rfl rfl
     refine i_mv rfl rfl rfl ?_
     refine i_op (a_add rfl rfl (by omega) ?_) rfl rfl
     refine i_op (a_ia (j := i) rfl rfl (by omega) (by omega) ?_) rfl rfl
     refine i_opn (a_stI rfl rfl (.next (.next (.next .here))) (by first | omega | (simp [wlen]; omega) | (simp; omega)) ?_) rfl
     refine i_nil ?_
     refine endD0n .nil ?_
     refine i_nil (then_n (r_seq (r_items (i_mv rfl rfl rfl (i_mv rfl rfl rfl ?_)))))
     refine i_op (a_add rfl rfl (by omega) ?_) rfl rfl
     refine i_mv rfl rfl rfl (i_mv rfl rfl rfl ?_)
     refine i_op (a_add rfl rfl (by decide) ?_) rfl rfl
     refine i_op (a_mul rfl rfl (by omega) ?_) rfl rfl
     refine i_mv rfl rfl rfl ?_
     refine i_op (a_add rfl rfl (by decide) ?_) rfl rfl
     refine i_op (a_mul rfl rfl (by omega) ?_) rfl rfl
     refine i_op (a_inl rfl rfl bw162_at rfl ?_) rfl rfl
     unfold bw162
     refine r_items (i_mv rfl rfl rfl ?_)
     refine i_op (a_nilc rfl ?_) rfl rfl
     refine i_op (a_fa rfl ?_) rfl rfl
     refine i_op (a_ld rfl (.next (.next .here)) rfl ?_) rfl rfl
     refine i_mv rfl rfl rfl ?_
     refine i_op (a_ia (j := i + 1) rfl rfl (by omega) (by omega) ?_) rfl rfl
     refine i_op (a_ldX (x := (W l k).getD (i + 1) 0) rfl (.next (.next (.next .here))) (by simp [wlen]; omega) (by first | rfl | (rw [getD_set_ne (by omega), getD_set_ne (by omega)]; done) | (rw [getD_set_ne (by omega)]; done)) ?_) rfl rfl
     refine i_mv rfl rfl rfl ?_
     refine i_op (a_add rfl rfl (by omega) ?_) rfl rfl
     refine i_op (a_ia (j := i + 1) rfl rfl (by omega) (by omega) ?_) rfl rfl
     refine i_opn (a_stI rfl rfl (.next (.next (.next .here))) (by first | omega | (simp [wlen]; omega) | (simp; omega)) ?_) rfl
     refine i_nil ?_
     refine endD0n .nil ?_
     refine i_nil (then_n (r_items (i_mv rfl rfl rfl (i_mv rfl rfl rfl ?_))))
     refine i_op (a_add rfl rfl (by omega) ?_) rfl rfl
     refine i_mv rfl rfl rfl ?_
     refine i_op (a_inl rfl rfl bw162_at rfl ?_) rfl rfl
     unfold bw162
     refine r_items (i_mv rfl rfl rfl ?_)
     refine i_op (a_nilc rfl ?_) rfl rfl
     refine i_op (a_fa rfl ?_) rfl rfl
     refine i_op (a_ld rfl (.next (.next .here)) rfl ?_) rfl rfl
     refine i_mv rfl rfl rfl ?_
     refine i_op (a_ia (j := i + 2) rfl rfl (by omega) (by omega) ?_) rfl rfl
     refine i_op (a_ldX (x := (W l k).getD (i + 2) 0) rfl (.next (.next (.next .here))) (by simp [wlen]; omega) (by first | rfl | (rw [getD_set_ne (by omega), getD_set_ne (by omega)]; done) | (rw [getD_set_ne (by omega)]; done)) ?_) rfl rfl
     refine i_mv rfl rfl rfl ?_
     refine i_op (a_add rfl rfl (by omega) ?_) rfl rfl
     refine i_op (a_ia (j := i + 2) rfl rfl (by omega) (by omega) ?_) rfl rfl
     refine i_opn (a_stI rfl rfl (.next (.next (.next .here))) (by first | omega | (simp [wlen]; omega) | (simp; omega)) ?_) rfl
     refine i_nil ?_
     refine endD0n .nil ?_
     refine i_nil ?_
     refine endD0n .nil ?_
     refine i_nil (block_n (then_n (r_items ?_)))
     refine i_op (a_add rfl rfl (by omega) ?_) rfl rfl
     refine i_mv rfl rfl rfl (i_nil (then_n ?_))
     exact ⟨rfl, _, _, _, (show (grs l 0).length - (k + 1) < (grs l 0).length - k by omega), (lc 0 rfl (lc 1 rfl (lc 7 rfl (lc 8 rfl (lc 9 rfl Less.nil))))), (.cons _ (.cons_cons _ (.cons_cons _ (.cons_cons _ .slnil)))), ⟨k + 1, rfl, (by first
  | (rw [W_one hgk hm1]; first | done | rfl)
  | (rw [W_two hgk hm2 hk]; unfold step2; dsimp only; rw [if_pos (by assumption)]; first | done | rfl)
  | (rw [W_two hgk hm2 hk]; unfold step2; dsimp only; rw [if_neg (by assumption)]; first | done | rfl)), rfl, by omega⟩⟩
    ·refine i_nil (then_n (r_cond_f rfl (r_skip (then_n (r_seq (r_items (i_mv rfl rfl rfl (i_mv rfl rfl rfl (i_mv rfl rfl rfl ?_)))))))))
     refine i_op (a_inl rfl rfl bw162_at rfl ?_) rfl rfl
     unfold bw162
     refine r_items (i_mv rfl rfl rfl ?_)
     refine i_op (a_nilc rfl ?_) rfl rfl
     refine i_op (a_fa rfl ?_) rfl rfl
     refine i_op (a_ld rfl (.next (.next .here)) rfl ?_) rfl rfl
     refine i_mv rfl rfl rfl ?_
     refine i_op (a_ia (j := i) rfl rfl (by omega) (by omega) ?_) rfl rfl
     refine i_op (a_ldX (x := (W l k).getD (i) 0) rfl (.next (.next (.next .here))) (by simp [wlen]; omega) (by first | rfl | (rw [getD_set_ne (by omega), getD_set_ne (by omega)]; done) | (rw [getD_set_ne (by omega)]; done)) ?_) rfl rfl
     refine i_mv rfl rfl rfl ?_
     refine i_op (a_add rfl rfl (by omega) ?_) rfl rfl
     refine i_op (a_ia (j := i) rfl rfl (by omega) (by omega) ?_) rfl rfl
     refine i_opn (a_stI rfl rfl (.next (.next (.next .here))) (by first | omega | (simp [wlen]; omega) | (simp; omega)) ?_) rfl
     refine i_nil ?_
     refine endD0n .nil ?_
     refine i_nil (then_n (r_seq (r_items (i_mv rfl rfl rfl (i_mv rfl rfl rfl ?_)))))
     refine i_op (a_add rfl rfl (by omega) ?_) rfl rfl
     refine i_mv rfl rfl rfl (i_mv rfl rfl rfl ?_)
     refine i_op (a_add rfl rfl (by decide) ?_) rfl rfl
     refine i_op (a_mul rfl rfl (by omega) ?_) rfl rfl
     refine i_mv rfl rfl rfl ?_
     refine i_op (a_add rfl rfl (by decide) ?_) rfl rfl
     refine i_op (a_mul rfl rfl (by omega) ?_) rfl rfl
     refine i_op (a_inl rfl rfl bw162_at rfl ?_) rfl rfl
     unfold bw162
     refine r_items (i_mv rfl rfl rfl ?_)
     refine i_op (a_nilc rfl ?_) rfl rfl
     refine i_op (a_fa rfl ?_) rfl rfl
     refine i_op (a_ld rfl (.next (.next .here)) rfl ?_) rfl rfl
     refine i_mv rfl rfl rfl ?_
     refine i_op (a_ia (j := i + 1) rfl rfl (by omega) (by omega) ?_) rfl rfl
     refine i_op (a_ldX (x := (W l k).getD (i + 1) 0) rfl (.next (.next (.next .here))) (by simp [wlen]; omega) (by first | rfl | (rw [getD_set_ne (by omega), getD_set_ne (by omega)]; done) | (rw [getD_set_ne (by omega)]; done)) ?_) rfl rfl
     refine i_mv rfl rfl rfl ?_
     refine i_op (a_add rfl rfl (by omega) ?_) rfl rfl
     refine i_op (a_ia (j := i + 1) rfl rfl (by omega) (by omega) ?_) rfl rfl
     refine i_opn (a_stI rfl rfl (.next (.next (.next .here))) (by first | omega | (simp [wlen]; omega) | (simp; omega)) ?_) rfl
     refine i_nil ?_
     refine endD0n .nil ?_
     refine i_nil (then_n (r_items (i_mv rfl rfl rfl (i_mv rfl rfl rfl ?_))))
     refine i_op (a_add rfl rfl (by omega) ?_) rfl rfl
     refine i_mv rfl rfl rfl ?_
     refine i_op (a_inl rfl rfl bw162_at rfl ?_) rfl rfl
     unfold bw162
     refine r_items (i_mv rfl rfl rfl ?_)
     refine i_op (a_nilc rfl ?_) rfl rfl
     refine i_op (a_fa rfl ?_) rfl rfl
     refine i_op (a_ld rfl (.next (.next .here)) rfl ?_) rfl rfl
     refine i_mv rfl rfl rfl ?_
     refine i_op (a_ia (j := i + 2) rfl rfl (by omega) (by omega) ?_) rfl rfl
     refine i_op (a_ldX (x := (W l k).getD (i + 2) 0) rfl (.next (.next (.next .here))) (by simp [wlen]; omega) (by first | rfl | (rw [getD_set_ne (by omega), getD_set_ne (by omega)]; done) | (rw [getD_set_ne (by omega)]; done)) ?_) rfl rfl
     refine i_mv rfl rfl rfl ?_
     refine i_op (a_add rfl rfl (by omega) ?_) rfl rfl
     refine i_op (a_ia (j := i + 2) rfl rfl (by omega) (by omega) ?_) rfl rfl
     refine i_opn (a_stI rfl rfl (.next (.next (.next .here))) (by first | omega | (simp [wlen]; omega) | (simp; omega)) ?_) rfl
     refine i_nil ?_
     refine endD0n .nil ?_
     refine i_nil ?_
     refine endD0n .nil ?_
     refine i_nil (block_n (then_n (r_items ?_)))
     refine i_op (a_add rfl rfl (by omega) ?_) rfl rfl
     refine i_mv rfl rfl rfl (i_nil (then_n ?_))
     exact ⟨rfl, _, _, _, (show (grs l 0).length - (k + 1) < (grs l 0).length - k by omega), (lc 0 rfl (lc 1 rfl (lc 7 rfl (lc 8 rfl (lc 9 rfl Less.nil))))), (.cons _ (.cons_cons _ (.cons_cons _ (.cons_cons _ .slnil)))), ⟨k + 1, rfl, (by first
  | (rw [W_one hgk hm1]; first | done | rfl)
  | (rw [W_two hgk hm2 hk]; unfold step2; dsimp only; rw [if_pos (by assumption)]; first | done | rfl)
  | (rw [W_two hgk hm2 hk]; unfold step2; dsimp only; rw [if_neg (by assumption)]; first | done | rfl)), rfl, by omega⟩⟩
 ·refine i_nil (then_n (r_seq (r_cond_f rfl (r_exit (then_e (then_e (block_hit ?_)))))))
  refine endD0n .nil ?_
  refine i_nil (then_n (r_seq (r_items ?_)))
  refine i_op (a_fa rfl ?_) rfl rfl
  refine i_op (a_ld rfl (.next .here) rfl ?_) rfl rfl
  refine i_mv rfl rfl rfl (i_nil (then_n (r_ret ?_)))
  exact end1A rfl (.cons _ (.cons _ (.cons_cons _ .slnil))) ⟨b1, rfl, by rw [W_end (by omega)]⟩
theorem rweights_s (n : Nat) (a : Option Addr) (cap : Nat) (l : List Int) (s : St) (hs : Wf s) (hn : 562949953421312 ≤ n) (hl : IntsE s a l) (hp : Plc 9 100000 l) : Spec Tryz.prog (tabK tabw) X (n + 900) 136 [.slice a l.length cap] s (fun v A => ∃ b, v = .slice (some ⟨b, 0, none⟩) l.length l.length ∧ A = [.row b 3 false (ints (wts l))]) := by
 refine enter bw136_at rfl hs ?_
 unfold bw136
 have hlen := hl.len
 have hm9 := hp.hm
 have hG9 := gr_len (l := l) l.length 0 (by omega)
 refine r_seq (r_items (i_mv rfl rfl rfl (i_nil (then_n (r_seq (r_items (i_mv rfl rfl rfl ?_)))))))
 refine i_op (a_lenx rfl hl.spot ?_) rfl rfl
 refine i_op (a_mksI rfl rfl (by omega) (by omega) (by omega) (fun b1 => ?_)) rfl rfl
 refine i_mv rfl rfl rfl (i_nil (then_n (r_seq (r_items (i_mv rfl rfl rfl ?_)))))
 refine i_op (a_call rfl rfl (fun s1 h1 => groups_s _ _ _ _ s1 h1.wf (by omega) (hl.ext hs h1.2.1) hp) (fun v1 A1 q1 => ?_)) rfl rfl
 obtain ⟨b2, rfl, rfl⟩ := q1
 refine i_mv rfl rfl rfl (i_nil (then_n (r_seq (r_seq (r_items (i_mv rfl rfl rfl (i_nil (then_n (r_block ?_)))))))))
 refine r_loop (fun j e A => ∃ (k : Nat), e = [(0, .slice a l.length cap), (3, .slice (some ⟨b1, 0, none⟩) l.length l.length), (4, .slice (some ⟨b2, 0, none⟩) (grs l 0).length OPEN), (5, .int .i64 (k : Int))] ∧ A = [.row b2 215 true (flat2 (grs l 0)), .row b1 3 false (ints (W l k))] ∧ j = (grs l 0).length - k ∧ k ≤ (grs l 0).length) 400 0 281474976710656 ?_ (j := _) (env2 := _) (A2 := _) ?_ ?_ ?_ ?_ ⟨0, rfl, rfl, rfl, by omega⟩
 rotate_left
 ·omega
 ·omega
 ·exact (Less.cons rfl (Less.cons rfl (Less.cons rfl (Less.cons rfl Less.nil))))
 ·exact (.cons_cons _ (.cons_cons _ .slnil))
 rintro n hn j _ _ ⟨k, rfl, rfl, rfl, hkl⟩
 refine r_seq (r_seq (r_items (i_mv rfl rfl rfl (i_mv rfl rfl rfl ?_))))
 refine i_op (a_len rfl ?_) rfl rfl
 refine i_op (a_lss rfl rfl (fun h3 => ?_) (fun h3 => ?_)) rfl rfl
 ·obtain ⟨⟨i, m⟩, hgk⟩ := get_some (l := grs l 0) (k := k) (by omega)
  obtain ⟨hin, hmm⟩ := gr_mem hgk
  simp only at hin hmm
  have hmc := many_cases l i
  have z0 := hp.lo (i)
  have z1 := hp.lo (i + 1)
  have z2 := hp.lo (i + 2)
  have r0 : i + 1 < l.length → l.getD (i) 0 < l.getD (i + 1) 0 := fun h => hp.rise _ h
  have r1 : i + 2 < l.length → l.getD (i + 1) 0 < l.getD (i + 2) 0 := fun h => hp.rise _ h
  have hm9 := hp.hm
  have h29 := hp.h2
  have b0 := W_bd hp k i
  have b1 := W_bd hp k (i + 1)
  have b2 := W_bd hp k (i + 2)
  have hG9 := gr_len (l := l) l.length 0 (by omega)
  refine i_nil (then_n (r_cond_t rfl (r_skip (then_n (r_seq (r_block (r_seq (r_items (i_mv rfl rfl rfl (i_mv rfl rfl rfl ?_))))))))))
  refine i_op (a_ia (j := k) rfl rfl (by omega) (by omega) ?_) rfl rfl
  refine i_op (a_fa rfl ?_) rfl rfl
  refine i_op (a_ld rfl .here (flat2_at0 hgk) ?_) rfl rfl
  refine i_mv rfl rfl rfl (i_nil (then_n (r_seq (r_items (i_mv rfl rfl rfl (i_mv rfl rfl rfl ?_))))))
  refine i_op (a_add rfl rfl (by omega) ?_) rfl rfl
  refine i_op (a_iaI (j := i + 1) hl rfl rfl (by omega) (by simp) (by omega) (fun _ _ a4 => ?_)) rfl rfl
  refine i_op (a_ldr rfl (hl.at a4 (by omega)) ?_) rfl rfl
  refine i_mv rfl rfl rfl (i_mv rfl rfl rfl ?_)
  refine i_op (a_iaI (j := i) hl rfl rfl (by omega) (by simp) (by omega) (fun _ _ a5 => ?_)) rfl rfl
  refine i_op (a_ldr rfl (hl.at a5 (by omega)) ?_) rfl rfl
  refine i_op (a_sub rfl rfl (by omega) ?_) rfl rfl
  refine i_mv rfl rfl rfl (i_nil (then_n (r_seq (r_seq (r_items (i_mv rfl rfl rfl (i_mv rfl rfl rfl ?_)))))))
  refine i_op (a_ia (j := k) rfl rfl (by omega) (by omega) ?_) rfl rfl
  refine i_op (a_fa rfl ?_) rfl rfl
  refine i_op (a_ld rfl .here (flat2_at1 hgk) ?_) rfl rfl
  refine i_op (a_eql rfl rfl (fun h6 => ?_) (fun h6 => ?_)) rfl rfl
  ·have hm1 : m = 1 := by omega
   refine i_nil (then_n (r_cond_t rfl (r_seq (r_items (i_mv rfl rfl rfl (i_mv rfl rfl rfl ?_))))))
   refine i_op (a_ia (j := i) rfl rfl (by omega) (by omega) ?_) rfl rfl
   refine i_op (a_ldX (x := (W l k).getD (i) 0) rfl (.next .here) (by simp [wlen]; omega) (by first | rfl | (rw [getD_set_ne (by omega), getD_set_ne (by omega)]; done) | (rw [getD_set_ne (by omega)]; done)) ?_) rfl rfl
   refine i_mv rfl rfl rfl ?_
   refine i_op (a_mul rfl rfl (by omega) ?_) rfl rfl
   refine i_op (a_add rfl rfl (by omega) ?_) rfl rfl
   refine i_op (a_ia (j := i) rfl rfl (by omega) (by omega) ?_) rfl rfl
   refine i_opn (a_stI rfl rfl (.next .here) (by first | omega | (simp [wlen]; omega) | (simp; omega)) ?_) rfl
   refine i_nil (then_n (r_seq (r_items (i_mv rfl rfl rfl (i_mv rfl rfl rfl ?_)))))
   refine i_op (a_add rfl rfl (by omega) ?_) rfl rfl
   refine i_op (a_ia (j := i + 1) rfl rfl (by omega) (by omega) ?_) rfl rfl
   refine i_op (a_ldX (x := (W l k).getD (i + 1) 0) rfl (.next .here) (by simp [wlen]; omega) (by first | rfl | (rw [getD_set_ne (by omega), getD_set_ne (by omega)]; done) | (rw [getD_set_ne (by omega)]; done)) ?_) rfl rfl
   refine i_mv rfl rfl rfl ?_
   refine i_op (a_mul rfl rfl (by omega) ?_) rfl rfl
   refine i_op (a_add rfl rfl (by omega) ?_) rfl rfl
   refine i_op (a_ia (j := i + 1) rfl rfl (by omega) (by omega) ?_) rfl rfl
   refine i_opn (a_stI rfl rfl (.next .here) (by first | omega | (simp [wlen]; omega) | (simp; omega)) ?_) rfl
   refine i_nil (then_n (r_exit (then_e (block_hit (then_n (r_items (i_mv rfl rfl rfl ?_)))))))
   refine i_op (a_add rfl rfl (by omega) ?_) rfl rfl
   refine i_mv rfl rfl rfl (i_nil (then_n ?_))
   exact ⟨rfl, _, _, _, (show (grs l 0).length - (k + 1) < (grs l 0).length - k by omega), (lc 0 rfl (lc 3 rfl (lc 4 rfl (lc 5 rfl Less.nil)))), (.cons_cons _ (.cons_cons _ .slnil)), ⟨k + 1, rfl, (by first
  | (rw [W_one hgk hm1]; first | done | rfl)
  | (rw [W_two hgk hm2 hk]; unfold step2; dsimp only; rw [if_pos (by assumption)]; first | done | rfl)
  | (rw [W_two hgk hm2 hk]; unfold step2; dsimp only; rw [if_neg (by assumption)]; first | done | rfl)), rfl, by omega⟩⟩
  ·have hm2 : m = 2 := by omega
   have hrat := many_ne (hmm.trans hm2)
   refine i_nil (then_n (r_cond_f rfl (r_skip (then_n (r_seq (r_items (i_mv rfl rfl rfl (i_mv rfl rfl rfl ?_))))))))
   refine i_op (a_add rfl rfl (by omega) ?_) rfl rfl
   refine i_op (a_iaI (j := i + 2) hl rfl rfl (by omega) (by simp) (by omega) (fun _ _ a7 => ?_)) rfl rfl
   refine i_op (a_ldr rfl (hl.at a7 (by omega)) ?_) rfl rfl
   refine i_mv rfl rfl rfl (i_mv rfl rfl rfl ?_)
   refine i_op (a_add rfl rfl (by omega) ?_) rfl rfl
   refine i_op (a_iaI (j := i + 1) hl rfl rfl (by omega) (by simp) (by omega) (fun _ _ a8 => ?_)) rfl rfl
   refine i_op (a_ldr rfl (hl.at a8 (by omega)) ?_) rfl rfl
   refine i_op (a_sub rfl rfl (by omega) ?_) rfl rfl
   refine i_mv rfl rfl rfl (i_nil (then_n (r_seq (r_items (i_mv rfl rfl rfl (i_mv rfl rfl rfl ?_))))))
   refine i_op (a_call rfl rfl (fun s1 h1 => times_s _ _ _ s1 h1.wf (by omega) (by omega)) (fun v1 A1 q1 => ?_)) rfl rfl
   obtain ⟨rfl, rfl⟩ := q1
   rcases rat_pos hrat with hk | hk | hk
   ·rw [hk]
    refine i_mv rfl rfl rfl (i_nil (then_n (r_seq (r_items (i_mv rfl rfl rfl (i_mv rfl rfl rfl ?_))))))
    refine i_op (a_min rfl ?_) rfl rfl
    refine i_mv rfl rfl rfl (i_nil (then_n (r_seq (r_items (i_mv rfl rfl rfl ?_)))))
    refine i_op (a_quoc (q := 6) rfl rfl (by decide) rfl (by decide) ?_) rfl rfl
    refine i_mv rfl rfl rfl ?_
    refine i_op (a_add rfl rfl (by decide) ?_) rfl rfl
    refine i_op (a_mul rfl rfl (by decide) ?_) rfl rfl
    refine i_mv rfl rfl rfl ?_
    refine i_op (a_mul rfl rfl (by omega) ?_) rfl rfl
    refine i_mv rfl rfl rfl (i_nil (then_n (r_seq (r_items (i_mv rfl rfl rfl (i_mv rfl rfl rfl ?_))))))
    refine i_op (a_mul rfl rfl (by omega) ?_) rfl rfl
    refine i_mv rfl rfl rfl ?_
    refine i_op (a_sub rfl rfl (by decide) ?_) rfl rfl
    refine i_op (a_mul rfl rfl (by omega) ?_) rfl rfl
    refine i_mv rfl rfl rfl (i_nil (then_n (r_seq (r_items (i_mv rfl rfl rfl (i_mv rfl rfl rfl ?_))))))
    refine i_op (a_mul rfl rfl (by decide) ?_) rfl rfl
    refine i_op (a_sub rfl rfl (by decide) ?_) rfl rfl
    refine i_op (a_mul rfl rfl (by omega) ?_) rfl rfl
    refine i_mv rfl rfl rfl (i_nil (then_n (r_seq (r_seq (r_items (i_mv rfl rfl rfl (i_mv rfl rfl rfl ?_)))))))
    refine i_op (a_gtr rfl rfl (fun h9 => ?_) (fun h9 => ?_)) rfl rfl
    ·refine i_nil (then_n (r_cond_t rfl (r_items (i_mv rfl rfl rfl (i_mv rfl rfl rfl (i_mv rfl rfl rfl (i_mv rfl rfl rfl (i_nil (then_n (r_seq (r_items (i_mv rfl rfl rfl (i_mv rfl rfl rfl ?_)))))))))))))
     refine i_op (a_ia (j := i) rfl rfl (by omega) (by omega) ?_) rfl rfl
     refine i_op (a_ldX (x := (W l k).getD (i) 0) rfl (.next .here) (by simp [wlen]; omega) (by first | rfl | (rw [getD_set_ne (by omega), getD_set_ne (by omega)]; done) | (rw [getD_set_ne (by omega)]; done)) ?_) rfl rfl
     refine i_mv rfl rfl rfl ?_
     refine i_op (a_add rfl rfl (by omega) ?_) rfl rfl
     refine i_op (a_ia (j := i) rfl rfl (by omega) (by omega) ?_) rfl rfl
     refine i_opn (a_stI rfl rfl (.next .here) (by first | omega | (simp [wlen]; omega) | (simp; omega)) ?_) rfl
     refine i_nil (then_n (r_seq (r_items (i_mv rfl rfl rfl (i_mv rfl rfl rfl ?_)))))
     refine i_op (a_add rfl rfl (by omega) ?_) rfl rfl
     refine i_op (a_ia (j := i + 1) rfl rfl (by omega) (by omega) ?_) rfl rfl
     refine i_op (a_ldX (x := (W l k).getD (i + 1) 0) rfl (.next .here) (by simp [wlen]; omega) (by first | rfl | (rw [getD_set_ne (by omega), getD_set_ne (by omega)]; done) | (rw [getD_set_ne (by omega)]; done)) ?_) rfl rfl
     refine i_mv rfl rfl rfl (i_mv rfl rfl rfl ?_)
     refine i_op (a_add rfl rfl (by decide) ?_) rfl rfl
     refine i_op (a_mul rfl rfl (by omega) ?_) rfl rfl
     refine i_mv rfl rfl rfl ?_
     refine i_op (a_add rfl rfl (by decide) ?_) rfl rfl
     refine i_op (a_mul rfl rfl (by omega) ?_) rfl rfl
     refine i_op (a_add rfl rfl (by omega) ?_) rfl rfl
     refine i_op (a_ia (j := i + 1) rfl rfl (by omega) (by omega) ?_) rfl rfl
     refine i_opn (a_stI rfl rfl (.next .here) (by first | omega | (simp [wlen]; omega) | (simp; omega)) ?_) rfl
     refine i_nil (then_n (r_items (i_mv rfl rfl rfl (i_mv rfl rfl rfl ?_))))
     refine i_op (a_add rfl rfl (by omega) ?_) rfl rfl
     refine i_op (a_ia (j := i + 2) rfl rfl (by omega) (by omega) ?_) rfl rfl
     refine i_op (a_ldX (x := (W l k).getD (i + 2) 0) rfl (.next .here) (by simp [wlen]; omega) (by first | rfl | (rw [getD_set_ne (by omega), getD_set_ne (by omega)]; done) | (rw [getD_set_ne (by omega)]; done)) ?_) rfl rfl
     refine i_mv rfl rfl rfl ?_
     refine i_op (a_add rfl rfl (by omega) ?_) rfl rfl
     refine i_op (a_ia (j := i + 2) rfl rfl (by omega) (by omega) ?_) rfl rfl
     refine i_opn (a_stI rfl rfl (.next .here) (by first | omega | (simp [wlen]; omega) | (simp; omega)) ?_) rfl
     refine i_nil (block_n (then_n (r_items (i_mv rfl rfl rfl ?_))))
     refine i_op (a_add rfl rfl (by omega) ?_) rfl rfl
     refine i_mv rfl rfl rfl (i_nil (then_n ?_))
     exact ⟨rfl, _, _, _, (show (grs l 0).length - (k + 1) < (grs l 0).length - k by omega), (lc 0 rfl (lc 3 rfl (lc 4 rfl (lc 5 rfl Less.nil)))), (.cons_cons _ (.cons_cons _ .slnil)), ⟨k + 1, rfl, (by first
  | (rw [W_one hgk hm1]; first | done | rfl)
  | (rw [W_two hgk hm2 hk]; unfold step2; dsimp only; rw [if_pos (by assumption)]; first | done | rfl)
  | (rw [W_two hgk hm2 hk]; unfold step2; dsimp only; rw [if_neg (by assumption)]; first | done | rfl)), rfl, by omega⟩⟩
    ·refine i_nil (then_n (r_cond_f rfl (r_skip (then_n (r_seq (r_items (i_mv rfl rfl rfl (i_mv rfl rfl rfl ?_))))))))
     refine i_op (a_ia (j := i) rfl rfl (by omega) (by omega) ?_) rfl rfl
     refine i_op (a_ldX (x := (W l k).getD (i) 0) rfl (.next .here) (by simp [wlen]; omega) (by first | rfl | (rw [getD_set_ne (by omega), getD_set_ne (by omega)]; done) | (rw [getD_set_ne (by omega)]; done)) ?_) rfl rfl
     refine i_mv rfl rfl rfl ?_
     refine i_op (a_add rfl rfl (by omega) ?_) rfl rfl
     refine i_op (a_ia (j := i) rfl rfl (by omega) (by omega) ?_) rfl rfl
     refine i_opn (a_stI rfl rfl (.next .here) (by first | omega | (simp [wlen]; omega) | (simp; omega)) ?_) rfl
     refine i_nil (then_n (r_seq (r_items (i_mv rfl rfl rfl (i_mv rfl rfl rfl ?_)))))
     refine i_op (a_add rfl rfl (by omega) ?_) rfl rfl
     refine i_op (a_ia (j := i + 1) rfl rfl (by omega) (by omega) ?_) rfl rfl
     refine i_op (a_ldX (x := (W l k).getD (i + 1) 0) rfl (.next .here) (by simp [wlen]; omega) (by first | rfl | (rw [getD_set_ne (by omega), getD_set_ne (by omega)]; done) | (rw [getD_set_ne (by omega)]; done)) ?_) rfl rfl
     refine i_mv rfl rfl rfl (i_mv rfl rfl rfl ?_)
     refine i_op (a_add rfl rfl (by decide) ?_) rfl rfl
     refine i_op (a_mul rfl rfl (by omega) ?_) rfl rfl
     refine i_mv rfl rfl rfl ?_
     refine i_op (a_add rfl rfl (by decide) ?_) rfl rfl
     refine i_op (a_mul rfl rfl (by omega) ?_) rfl rfl
     refine i_op (a_add rfl rfl (by omega) ?_) rfl rfl
     refine i_op (a_ia (j := i + 1) rfl rfl (by omega) (by omega) ?_) rfl rfl
     refine i_opn (a_stI rfl rfl (.next .here) (by first | omega | (simp [wlen]; omega) | (simp; omega)) ?_) rfl
     refine i_nil (then_n (r_items (i_mv rfl rfl rfl (i_mv rfl rfl rfl ?_))))
     refine i_op (a_add rfl rfl (by omega) ?_) rfl rfl
     refine i_op (a_ia (j := i + 2) rfl rfl (by omega) (by omega) ?_) rfl rfl
     refine i_op (a_ldX (x := (W l k).getD (i + 2) 0) rfl (.next .here) (by simp [wlen]; omega) (by first | rfl | (rw [getD_set_ne (by omega), getD_set_ne (by omega)]; done) | (rw [getD_set_ne (by omega)]; done)) ?_) rfl rfl
     refine i_mv rfl rfl rfl ?_
     refine i_op (a_add rfl rfl (by omega) ?_) rfl rfl
     refine i_op (a_ia (j := i + 2) rfl rfl (by omega) (by omega) ?_) rfl rfl
     refine i_opn (a_stI rfl rfl (.next .here) (by first | omega | (simp [wlen]; omega) | (simp; omega)) ?_) rfl
     refine i_nil (block_n (then_n (r_items (i_mv rfl rfl rfl ?_))))
     refine i_op (a_add rfl rfl (by omega) ?_) rfl rfl
     refine i_mv rfl rfl rfl (i_nil (then_n ?_))
     exact ⟨rfl, _, _, _, (show (grs l 0).length - (k + 1) < (grs l 0).length - k by omega), (lc 0 rfl (lc 3 rfl (lc 4 rfl (lc 5 rfl Less.nil)))), (.cons_cons _ (.cons_cons _ .slnil)), ⟨k + 1, rfl, (by first
  | (rw [W_one hgk hm1]; first | done | rfl)
  | (rw [W_two hgk hm2 hk]; unfold step2; dsimp only; rw [if_pos (by assumption)]; first | done | rfl)
  | (rw [W_two hgk hm2 hk]; unfold step2; dsimp only; rw [if_neg (by assumption)]; first | done | rfl)), rfl, by omega⟩⟩
   ·rw [hk]
    refine i_mv rfl rfl rfl (i_nil (then_n (r_seq (r_items (i_mv rfl rfl rfl (i_mv rfl rfl rfl ?_))))))
    refine i_op (a_min rfl ?_) rfl rfl
    refine i_mv rfl rfl rfl (i_nil (then_n (r_seq (r_items (i_mv rfl rfl rfl ?_)))))
    refine i_op (a_quoc (q := 3) rfl rfl (by decide) rfl (by decide) ?_) rfl rfl
    refine i_mv rfl rfl rfl ?_
    refine i_op (a_add rfl rfl (by decide) ?_) rfl rfl
    refine i_op (a_mul rfl rfl (by decide) ?_) rfl rfl
    refine i_mv rfl rfl rfl ?_
    refine i_op (a_mul rfl rfl (by omega) ?_) rfl rfl
    refine i_mv rfl rfl rfl (i_nil (then_n (r_seq (r_items (i_mv rfl rfl rfl (i_mv rfl rfl rfl ?_))))))
    refine i_op (a_mul rfl rfl (by omega) ?_) rfl rfl
    refine i_mv rfl rfl rfl ?_
    refine i_op (a_sub rfl rfl (by decide) ?_) rfl rfl
    refine i_op (a_mul rfl rfl (by omega) ?_) rfl rfl
    refine i_mv rfl rfl rfl (i_nil (then_n (r_seq (r_items (i_mv rfl rfl rfl (i_mv rfl rfl rfl ?_))))))
    refine i_op (a_mul rfl rfl (by decide) ?_) rfl rfl
    refine i_op (a_sub rfl rfl (by decide) ?_) rfl rfl
    refine i_op (a_mul rfl rfl (by omega) ?_) rfl rfl
    refine i_mv rfl rfl rfl (i_nil (then_n (r_seq (r_seq (r_items (i_mv rfl rfl rfl (i_mv rfl rfl rfl ?_)))))))
    refine i_op (a_gtr rfl rfl (fun h10 => ?_) (fun h10 => ?_)) rfl rfl
    ·refine i_nil (then_n (r_cond_t rfl (r_items (i_mv rfl rfl rfl (i_mv rfl rfl rfl (i_mv rfl rfl rfl (i_mv rfl rfl rfl (i_nil (then_n (r_seq (r_items (i_mv rfl rfl rfl (i_mv rfl rfl rfl ?_)))))))))))))
     refine i_op (a_ia (j := i) rfl rfl (by omega) (by omega) ?_) rfl rfl
     refine i_op (a_ldX (x := (W l k).getD (i) 0) rfl (.next .here) (by simp [wlen]; omega) (by first | rfl | (rw [getD_set_ne (by omega), getD_set_ne (by omega)]; done) | (rw [getD_set_ne (by omega)]; done)) ?_) rfl rfl
     refine i_mv rfl rfl rfl ?_
     refine i_op (a_add rfl rfl (by omega) ?_) rfl rfl
     refine i_op (a_ia (j := i) rfl rfl (by omega) (by omega) ?_) rfl rfl
     refine i_opn (a_stI rfl rfl (.next .here) (by first | omega | (simp [wlen]; omega) | (simp; omega)) ?_) rfl
     refine i_nil (then_n (r_seq (r_items (i_mv rfl rfl rfl (i_mv rfl rfl rfl ?_)))))
     refine i_op (a_add rfl rfl (by omega) ?_) rfl rfl
     refine i_op (a_ia (j := i + 1) rfl rfl (by omega) (by omega) ?_) rfl rfl
     refine i_op (a_ldX (x := (W l k).getD (i + 1) 0) rfl (.next .here) (by simp [wlen]; omega) (by first | rfl | (rw [getD_set_ne (by omega), getD_set_ne (by omega)]; done) | (rw [getD_set_ne (by omega)]; done)) ?_) rfl rfl
     refine i_mv rfl rfl rfl (i_mv rfl rfl rfl ?_)
     refine i_op (a_add rfl rfl (by decide) ?_) rfl rfl
     refine i_op (a_mul rfl rfl (by omega) ?_) rfl rfl
     refine i_mv rfl rfl rfl ?_
     refine i_op (a_add rfl rfl (by decide) ?_) rfl rfl
     refine i_op (a_mul rfl rfl (by omega) ?_) rfl rfl
     refine i_op (a_add rfl rfl (by omega) ?_) rfl rfl
     refine i_op (a_ia (j := i + 1) rfl rfl (by omega) (by omega) ?_) rfl rfl
     refine i_opn (a_stI rfl rfl (.next .here) (by first | omega | (simp [wlen]; omega) | (simp; omega)) ?_) rfl
     refine i_nil (then_n (r_items (i_mv rfl rfl rfl (i_mv rfl rfl rfl ?_))))
     refine i_op (a_add rfl rfl (by omega) ?_) rfl rfl
     refine i_op (a_ia (j := i + 2) rfl rfl (by omega) (by omega) ?_) rfl rfl
     refine i_op (a_ldX (x := (W l k).getD (i + 2) 0) rfl (.next .here) (by simp [wlen]; omega) (by first | rfl | (rw [getD_set_ne (by omega), getD_set_ne (by omega)]; done) | (rw [getD_set_ne (by omega)]; done)) ?_) rfl rfl
     refine i_mv rfl rfl rfl ?_
     refine i_op (a_add rfl rfl (by omega) ?_) rfl rfl
     refine i_op (a_ia (j := i + 2) rfl rfl (by omega) (by omega) ?_) rfl rfl
     refine i_opn (a_stI rfl rfl (.next .here) (by first | omega | (simp [wlen]; omega) | (simp; omega)) ?_) rfl
     refine i_nil (block_n (then_n (r_items (i_mv rfl rfl rfl ?_))))
     refine i_op (a_add rfl rfl (by omega) ?_) rfl rfl
     refine i_mv rfl rfl rfl (i_nil (then_n ?_))
     exact ⟨rfl, _, _, _, (show (grs l 0).length - (k + 1) < (grs l 0).length - k by omega), (lc 0 rfl (lc 3 rfl (lc 4 rfl (lc 5 rfl Less.nil)))), (.cons_cons _ (.cons_cons _ .slnil)), ⟨k + 1, rfl, (by first
  | (rw [W_one hgk hm1]; first | done | rfl)
  | (rw [W_two hgk hm2 hk]; unfold step2; dsimp only; rw [if_pos (by assumption)]; first | done | rfl)
  | (rw [W_two hgk hm2 hk]; unfold step2; dsimp only; rw [if_neg (by assumption)]; first | done | rfl)), rfl, by omega⟩⟩
    ·refine i_nil (then_n (r_cond_f rfl (r_skip (then_n (r_seq (r_items (i_mv rfl rfl rfl (i_mv rfl rfl rfl ?_))))))))
     refine i_op (a_ia (j := i) rfl rfl (by omega) (by omega) ?_) rfl rfl
     refine i_op (a_ldX (x := (W l k).getD (i) 0) rfl (.next .here) (by simp [wlen]; omega) (by first | rfl | (rw [getD_set_ne (by omega), getD_set_ne (by omega)]; done) | (rw [getD_set_ne (by omega)]; done)) ?_) rfl rfl
     refine i_mv rfl rfl rfl ?_
     refine i_op (a_add rfl rfl (by omega) ?_) rfl rfl
     refine i_op (a_ia (j := i) rfl rfl (by omega) (by omega) ?_) rfl rfl
     refine i_opn (a_stI rfl rfl (.next .here) (by first | omega | (simp [wlen]; omega) | (simp; omega)) ?_) rfl
     refine i_nil (then_n (r_seq (r_items (i_mv rfl rfl rfl (i_mv rfl rfl rfl ?_)))))
     refine i_op (a_add rfl rfl (by omega) ?_) rfl rfl
     refine i_op (a_ia (j := i + 1) rfl rfl (by omega) (by omega) ?_) rfl rfl
     refine i_op (a_ldX (x := (W l k).getD (i + 1) 0) rfl (.next .here) (by simp [wlen]; omega) (by first | rfl | (rw [getD_set_ne (by omega), getD_set_ne (by omega)]; done) | (rw [getD_set_ne (by omega)]; done)) ?_) rfl rfl
     refine i_mv rfl rfl rfl (i_mv rfl rfl rfl ?_)
     refine i_op (a_add rfl rfl (by decide) ?_) rfl rfl
     refine i_op (a_mul rfl rfl (by omega) ?_) rfl rfl
     refine i_mv rfl rfl rfl ?_
     refine i_op (a_add rfl rfl (by decide) ?_) rfl rfl
     refine i_op (a_mul rfl rfl (by omega) ?_) rfl rfl
     refine i_op (a_add rfl rfl (by omega) ?_) rfl rfl
     refine i_op (a_ia (j := i + 1) rfl rfl (by omega) (by omega) ?_) rfl rfl
     refine i_opn (a_stI rfl rfl (.next .here) (by first | omega | (simp [wlen]; omega) | (simp; omega)) ?_) rfl
     refine i_nil (then_n (r_items (i_mv rfl rfl rfl (i_mv rfl rfl rfl ?_))))
     refine i_op (a_add rfl rfl (by omega) ?_) rfl rfl
     refine i_op (a_ia (j := i + 2) rfl rfl (by omega) (by omega) ?_) rfl rfl
     refine i_op (a_ldX (x := (W l k).getD (i + 2) 0) rfl (.next .here) (by simp [wlen]; omega) (by first | rfl | (rw [getD_set_ne (by omega), getD_set_ne (by omega)]; done) | (rw [getD_set_ne (by omega)]; done)) ?_) rfl rfl
     refine i_mv rfl rfl rfl ?_
     refine i_op (a_add rfl rfl (by omega) ?_) rfl rfl
     refine i_op (a_ia (j := i + 2) rfl rfl (by omega) (by omega) ?_) rfl rfl
     refine i_opn (a_stI rfl rfl (.next .here) (by first | omega | (simp [wlen]; omega) | (simp; omega)) ?_) rfl
     refine i_nil (block_n (then_n (r_items (i_mv rfl rfl rfl ?_))))
     refine i_op (a_add rfl rfl (by omega) ?_) rfl rfl
     refine i_mv rfl rfl rfl (i_nil (then_n ?_))
     exact ⟨rfl, _, _, _, (show (grs l 0).length - (k + 1) < (grs l 0).length - k by omega), (lc 0 rfl (lc 3 rfl (lc 4 rfl (lc 5 rfl Less.nil)))), (.cons_cons _ (.cons_cons _ .slnil)), ⟨k + 1, rfl, (by first
  | (rw [W_one hgk hm1]; first | done | rfl)
  | (rw [W_two hgk hm2 hk]; unfold step2; dsimp only; rw [if_pos (by assumption)]; first | done | rfl)
  | (rw [W_two hgk hm2 hk]; unfold step2; dsimp only; rw [if_neg (by assumption)]; first | done | rfl)), rfl, by omega⟩⟩
   ·rw [hk]
    refine i_mv rfl rfl rfl (i_nil (then_n (r_seq (r_items (i_mv rfl rfl rfl (i_mv rfl rfl rfl ?_))))))
    refine i_op (a_min rfl ?_) rfl rfl
    refine i_mv rfl rfl rfl (i_nil (then_n (r_seq (r_items (i_mv rfl rfl rfl ?_)))))
    refine i_op (a_quoc (q := 2) rfl rfl (by decide) rfl (by decide) ?_) rfl rfl
    refine i_mv rfl rfl rfl ?_
    refine i_op (a_add rfl rfl (by decide) ?_) rfl rfl
    refine i_op (a_mul rfl rfl (by decide) ?_) rfl rfl
    refine i_mv rfl rfl rfl ?_
    refine i_op (a_mul rfl rfl (by omega) ?_) rfl rfl
    refine i_mv rfl rfl rfl (i_nil (then_n (r_seq (r_items (i_mv rfl rfl rfl (i_mv rfl rfl rfl ?_))))))
    refine i_op (a_mul rfl rfl (by omega) ?_) rfl rfl
    refine i_mv rfl rfl rfl ?_
    refine i_op (a_sub rfl rfl (by decide) ?_) rfl rfl
    refine i_op (a_mul rfl rfl (by omega) ?_) rfl rfl
    refine i_mv rfl rfl rfl (i_nil (then_n (r_seq (r_items (i_mv rfl rfl rfl (i_mv rfl rfl rfl ?_))))))
    refine i_op (a_mul rfl rfl (by decide) ?_) rfl rfl
    refine i_op (a_sub rfl rfl (by decide) ?_) rfl rfl
    refine i_op (a_mul rfl rfl (by omega) ?_) rfl rfl
    refine i_mv rfl rfl rfl (i_nil (then_n (r_seq (r_seq (r_items (i_mv rfl rfl rfl (i_mv rfl rfl rfl ?_)))))))
    refine i_op (a_gtr rfl rfl (fun h11 => ?_) (fun h11 => ?_)) rfl rfl
    ·refine i_nil (then_n (r_cond_t rfl (r_items (i_mv rfl rfl rfl (i_mv rfl rfl rfl (i_mv rfl rfl rfl (i_mv rfl rfl rfl (i_nil (then_n (r_seq (r_items (i_mv rfl rfl rfl (i_mv rfl rfl rfl ?_)))))))))))))
     refine i_op (a_ia (j := i) rfl rfl (by omega) (by omega) ?_) rfl rfl
     refine i_op (a_ldX (x := (W l k).getD (i) 0) rfl (.next .here) (by simp [wlen]; omega) (by first | rfl | (rw [getD_set_ne (by omega), getD_set_ne (by omega)]; done) | (rw [getD_set_ne (by omega)]; done)) ?_) rfl rfl
     refine i_mv rfl rfl rfl ?_
     refine i_op (a_add rfl rfl (by omega) ?_) rfl rfl
     refine i_op (a_ia (j := i) rfl rfl (by omega) (by omega) ?_) rfl rfl
     refine i_opn (a_stI rfl rfl (.next .here) (by first | omega | (simp [wlen]; omega) | (simp; omega)) ?_) rfl
     refine i_nil (then_n (r_seq (r_items (i_mv rfl rfl rfl (i_mv rfl rfl rfl ?_)))))
     refine i_op (a_add rfl rfl (by omega) ?_) rfl rfl
     refine i_op (a_ia (j := i + 1) rfl rfl (by omega) (by omega) ?_) rfl rfl
     refine i_op (a_ldX (x := (W l k).getD (i + 1) 0) rfl (.next .here) (by simp [wlen]; omega) (by first | rfl | (rw [getD_set_ne (by omega), getD_set_ne (by omega)]; done) | (rw [getD_set_ne (by omega)]; done)) ?_) rfl rfl
     refine i_mv rfl rfl rfl (i_mv rfl rfl rfl ?_)
     refine i_op (a_add rfl rfl (by decide) ?_) rfl rfl
     refine i_op (a_mul rfl rfl (by omega) ?_) rfl rfl
     refine i_mv rfl rfl rfl ?_
     refine i_op (a_add rfl rfl (by decide) ?_) rfl rfl
     refine i_op (a_mul rfl rfl (by omega) ?_) rfl rfl
     refine i_op (a_add rfl rfl (by omega) ?_) rfl rfl
     refine i_op (a_ia (j := i + 1) rfl rfl (by omega) (by omega) ?_) rfl rfl
     refine i_opn (a_stI rfl rfl (.next .here) (by first | omega | (simp [wlen]; omega) | (simp; omega)) ?_) rfl
     refine i_nil (then_n (r_items (i_mv rfl rfl rfl (i_mv rfl rfl rfl ?_))))
     refine i_op (a_add rfl rfl (by omega) ?_) rfl rfl
     refine i_op (a_ia (j := i + 2) rfl rfl (by omega) (by omega) ?_) rfl rfl
     refine i_op (a_ldX (x := (W l k).getD (i + 2) 0) rfl (.next .here) (by simp [wlen]; omega) (by first | rfl | (rw [getD_set_ne (by omega), getD_set_ne (by omega)]; done) | (rw [getD_set_ne (by omega)]; done)) ?_) rfl rfl
     refine i_mv rfl rfl rfl ?_
     refine i_op (a_add rfl rfl (by omega) ?_) rfl rfl
     refine i_op (a_ia (j := i + 2) rfl rfl (by omega) (by omega) ?_) rfl rfl
     refine i_opn (a_stI rfl rfl (.next .here) (by first | omega | (simp [wlen]; omega) | (simp; omega)) ?_) rfl
     refine i_nil (block_n (then_n (r_items (i_mv rfl rfl rfl ?_))))
     refine i_op (a_add rfl rfl (by omega) ?_) rfl rfl
     refine i_mv rfl rfl rfl (i_nil (then_n ?_))
     exact ⟨rfl, _, _, _, (show (grs l 0).length - (k + 1) < (grs l 0).length - k by omega), (lc 0 rfl (lc 3 rfl (lc 4 rfl (lc 5 rfl Less.nil)))), (.cons_cons _ (.cons_cons _ .slnil)), ⟨k + 1, rfl, (by first
  | (rw [W_one hgk hm1]; first | done | rfl)
  | (rw [W_two hgk hm2 hk]; unfold step2; dsimp only; rw [if_pos (by assumption)]; first | done | rfl)
  | (rw [W_two hgk hm2 hk]; unfold step2; dsimp only; rw [if_neg (by assumption)]; first | done | rfl)), rfl, by omega⟩⟩
    ·refine i_nil (then_n (r_cond_f rfl (r_skip (then_n (r_seq (r_items (i_mv rfl rfl rfl (i_mv rfl rfl rfl ?_))))))))
     refine i_op (a_ia (j := i) rfl rfl (by omega) (by omega) ?_) rfl rfl
     refine i_op (a_ldX (x := (W l k).getD (i) 0) rfl (.next .here) (by simp [wlen]; omega) (by first | rfl | (rw [getD_set_ne (by omega), getD_set_ne (by omega)]; done) | (rw [getD_set_ne (by omega)]; done)) ?_) rfl rfl
     refine i_mv rfl rfl rfl ?_
     refine i_op (a_add rfl rfl (by omega) ?_) rfl rfl
     refine i_op (a_ia (j := i) rfl rfl (by omega) (by omega) ?_) rfl rfl
     refine i_opn (a_stI rfl rfl (.next .here) (by first | omega | (simp [wlen]; omega) | (simp; omega)) ?_) rfl
     refine i_nil (then_n (r_seq (r_items (i_mv rfl rfl rfl (i_mv rfl rfl rfl ?_)))))
     refine i_op (a_add rfl rfl (by omega) ?_) rfl rfl
     refine i_op (a_ia (j := i + 1) rfl rfl (by omega) (by omega) ?_) rfl rfl
     refine i_op (a_ldX (x := (W l k).getD (i + 1) 0) rfl (.next .here) (by simp [wlen]; omega) (by first | rfl | (rw [getD_set_ne (by omega), getD_set_ne (by omega)]; done) | (rw [getD_set_ne (by omega)]; done)) ?_) rfl rfl
     refine i_mv rfl rfl rfl (i_mv rfl rfl rfl ?_)
     refine i_op (a_add rfl rfl (by decide) ?_) rfl rfl
     refine i_op (a_mul rfl rfl (by omega) ?_) rfl rfl
     refine i_mv rfl rfl rfl ?_
     refine i_op (a_add rfl rfl (by decide) ?_) rfl rfl
     refine i_op (a_mul rfl rfl (by omega) ?_) rfl rfl
     refine i_op (a_add rfl rfl (by omega) ?_) rfl rfl
     refine i_op (a_ia (j := i + 1) rfl rfl (by omega) (by omega) ?_) rfl rfl
     refine i_opn (a_stI rfl rfl (.next .here) (by first | omega | (simp [wlen]; omega) | (simp; omega)) ?_) rfl
     refine i_nil (then_n (r_items (i_mv rfl rfl rfl (i_mv rfl rfl rfl ?_))))
     refine i_op (a_add rfl rfl (by omega) ?_) rfl rfl
     refine i_op (a_ia (j := i + 2) rfl rfl (by omega) (by omega) ?_) rfl rfl
     refine i_op (a_ldX (x := (W l k).getD (i + 2) 0) rfl (.next .here) (by simp [wlen]; omega) (by first | rfl | (rw [getD_set_ne (by omega), getD_set_ne (by omega)]; done) | (rw [getD_set_ne (by omega)]; done)) ?_) rfl rfl
     refine i_mv rfl rfl rfl ?_
     refine i_op (a_add rfl rfl (by omega) ?_) rfl rfl
     refine i_op (a_ia (j := i + 2) rfl rfl (by omega) (by omega) ?_) rfl rfl
     refine i_opn (a_stI rfl rfl (.next .here) (by first | omega | (simp [wlen]; omega) | (simp; omega)) ?_) rfl
     refine i_nil (block_n (then_n (r_items (i_mv rfl rfl rfl ?_))))
     refine i_op (a_add rfl rfl (by omega) ?_) rfl rfl
     refine i_mv rfl rfl rfl (i_nil (then_n ?_))
     exact ⟨rfl, _, _, _, (show (grs l 0).length - (k + 1) < (grs l 0).length - k by omega), (lc 0 rfl (lc 3 rfl (lc 4 rfl (lc 5 rfl Less.nil)))), (.cons_cons _ (.cons_cons _ .slnil)), ⟨k + 1, rfl, (by first
  | (rw [W_one hgk hm1]; first | done | rfl)
  | (rw [W_two hgk hm2 hk]; unfold step2; dsimp only; rw [if_pos (by assumption)]; first | done | rfl)
  | (rw [W_two hgk hm2 hk]; unfold step2; dsimp only; rw [if_neg (by assumption)]; first | done | rfl)), rfl, by omega⟩⟩
 ·refine i_nil (then_n (r_cond_f rfl (r_exit (then_e (then_e (block_hit (then_n (r_seq (r_items (i_mv rfl rfl rfl (i_mv rfl rfl rfl (i_nil (then_n (r_ret ?_))))))))))))))
  exact end1A rfl (.cons _ (.cons_cons _ .slnil)) ⟨b1, rfl, by rw [W_end (by omega)]⟩
end
end Ev
end Go.Proofs.YtfhfjcfhanmbiaaGreat
