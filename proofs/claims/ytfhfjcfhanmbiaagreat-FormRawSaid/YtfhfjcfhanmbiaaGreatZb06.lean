import Derived.Test.YtfhfjcfhanmbiaaGreatZb05
set_option linter.unusedVariables false
set_option linter.unusedSimpArgs false
/- Contracts: weights. -/
namespace Go.Proofs.YtfhfjcfhanmbiaaGreat
open Go Go.RowKit
namespace Ev
theorem many_ne {l : List Int} {i : Nat} (h : many l i = 2) : ¬ rat (l.getD (i + 1) 0 - l.getD i 0) (l.getD (i + 2) 0 - l.getD (i + 1) 0) = 0 := fun q => by
  rw [many_one2 q] at h; cases h
theorem rat_pos {a b : Int} (h : ¬ rat a b = 0) : rat a b = 1 ∨ rat a b = 2 ∨ rat a b = 3 := by
  rcases rat_cases a b with q | q
  · exact absurd q h
  · exact q
def step1 (l w : List Int) (i : Nat) : List Int :=
  (w.set i (w.getD i 0 + 18 * (l.getD (i + 1) 0 - l.getD i 0))).set (i + 1) (w.getD (i + 1) 0 + 18 * (l.getD (i + 1) 0 - l.getD i 0))
def unitK (a b k : Int) : Int := Int.tdiv 6 k * (1 + k) * min a b
def step2 (l w : List Int) (i : Nat) (k : Int) : List Int :=
  let c := unitK (l.getD (i + 1) 0 - l.getD i 0) (l.getD (i + 2) 0 - l.getD (i + 1) 0) k
  if l.getD (i + 2) 0 - l.getD (i + 1) 0 < l.getD (i + 1) 0 - l.getD i 0 then
    ((w.set i (w.getD i 0 + c * (2 * k - 1))).set (i + 1) (w.getD (i + 1) 0 + c * (1 + k) * (1 + k))).set (i + 2) (w.getD (i + 2) 0 + c * k * (2 - k))
  else ((w.set i (w.getD i 0 + c * k * (2 - k))).set (i + 1) (w.getD (i + 1) 0 + c * (1 + k) * (1 + k))).set (i + 2) (w.getD (i + 2) 0 + c * (2 * k - 1))
def stepW (l w : List Int) (p : Nat × Nat) : List Int :=
  if p.2 = 1 then step1 l w p.1 else step2 l w p.1 (rat (l.getD (p.1 + 1) 0 - l.getD p.1 0) (l.getD (p.1 + 2) 0 - l.getD (p.1 + 1) 0))
def W (l : List Int) (k : Nat) : List Int := ((grs l 0).take k).foldl (stepW l) (List.replicate l.length 0)
def wts (l : List Int) : List Int := (grs l 0).foldl (stepW l) (List.replicate l.length 0)
theorem step_len {l w : List Int} {p : Nat × Nat} : (stepW l w p).length = w.length := by
  unfold stepW step1 step2
  split
  · simp
  · split <;> simp
theorem W_succ {l : List Int} {k : Nat} {p : Nat × Nat} (h : (grs l 0)[k]? = some p) : W l (k + 1) = stepW l (W l k) p := by
  unfold W
  rw [List.take_add_one, h, List.foldl_append]; rfl
theorem W_one {l : List Int} {k i m : Nat} (h : (grs l 0)[k]? = some (i, m)) (hm : m = 1) : W l (k + 1) = step1 l (W l k) i := by
  rw [W_succ h]; unfold stepW; rw [if_pos hm]
theorem W_two {l : List Int} {k i m : Nat} {r : Int} (h : (grs l 0)[k]? = some (i, m)) (hm : m = 2) (hr : rat (l.getD (i + 1) 0 - l.getD i 0) (l.getD (i + 2) 0 - l.getD (i + 1) 0) = r) : W l (k + 1) = step2 l (W l k) i r := by
  rw [W_succ h]; unfold stepW; rw [if_neg (by show ¬ m = 1; omega)]; show step2 l (W l k) i (rat _ _) = _; rw [hr]
theorem wlen {l : List Int} : ∀ {k : Nat}, (W l k).length = l.length := by
  have key : ∀ (G : List (Nat × Nat)) (w : List Int), (G.foldl (stepW l) w).length = w.length := by
    intro G
    induction G with
    | nil => intro w; rfl
    | cons p G ih => intro w; rw [List.foldl_cons, ih, step_len]
  intro k
  unfold W
  rw [key]; simp
theorem W_end {l : List Int} {k : Nat} (h : (grs l 0).length ≤ k) : W l k = wts l := by unfold W wts; rw [List.take_of_length_le h]
theorem wts_len {l : List Int} : (wts l).length = l.length := by rw [← W_end (Nat.le_refl _)]; exact wlen
def Bd (w : List Int) (M : Int) : Prop := ∀ j, -M ≤ w.getD j 0 ∧ w.getD j 0 ≤ M
theorem bd_set {w : List Int} {M : Int} {i : Nat} {v : Int} (h : Bd w M) (hv : -M ≤ v ∧ v ≤ M) : Bd (w.set i v) M := by
  intro j
  by_cases hij : i = j
  · subst hij
    by_cases hi : i < w.length
    · have : (w.set i v).getD i 0 = v := by simp [List.getD_eq_getElem?_getD, hi]
      rw [this]; exact hv
    · rw [List.set_eq_of_length_le (by omega)]; exact h i
  · rw [getD_set_ne hij]; exact h j
theorem step_bd {l w : List Int} {p : Nat × Nat} {M : Int} (hp : Plc 9 100000 l) (hin : p.1 + p.2 < l.length) (hm : many l p.1 = p.2) (h0 : 0 ≤ M) (h : Bd w M) : Bd (stepW l w p) (M + 20000000) := by
  have hN : Bd w (M + 20000000) := fun j => by have := h j; omega
  obtain ⟨i, m⟩ := p
  have z0 := hp.lo i
  have z1 := hp.lo (i + 1)
  have z2 := hp.lo (i + 2)
  have b0 := h i
  have b1 := h (i + 1)
  have b2 := h (i + 2)
  have hm' : many l i = m := hm
  have hin' : i + m < l.length := hin
  unfold stepW
  rcases many_cases l i with q | q
  · rw [if_pos (by show m = 1; omega)]
    show Bd (step1 l w i) _
    unfold step1
    exact bd_set (bd_set hN (by omega)) (by omega)
  · rw [if_neg (by show ¬ m = 1; omega)]
    have r0 := hp.rise i (by omega)
    have r1 := hp.rise (i + 1) (by omega)
    show Bd (step2 l w i (rat _ _)) _
    rcases rat_pos (many_ne q) with hk | hk | hk
    · rw [hk]
      unfold step2
      have hu : unitK (l.getD (i + 1) 0 - l.getD i 0) (l.getD (i + 2) 0 - l.getD (i + 1) 0) 1 = 12 * min (l.getD (i + 1) 0 - l.getD i 0) (l.getD (i + 2) 0 - l.getD (i + 1) 0) := rfl
      rw [hu]
      split <;> exact bd_set (bd_set (bd_set hN (by omega)) (by omega)) (by omega)
    · rw [hk]
      unfold step2
      have hu : unitK (l.getD (i + 1) 0 - l.getD i 0) (l.getD (i + 2) 0 - l.getD (i + 1) 0) 2 = 9 * min (l.getD (i + 1) 0 - l.getD i 0) (l.getD (i + 2) 0 - l.getD (i + 1) 0) := rfl
      rw [hu]
      split <;> exact bd_set (bd_set (bd_set hN (by omega)) (by omega)) (by omega)
    · rw [hk]
      unfold step2
      have hu : unitK (l.getD (i + 1) 0 - l.getD i 0) (l.getD (i + 2) 0 - l.getD (i + 1) 0) 3 = 8 * min (l.getD (i + 1) 0 - l.getD i 0) (l.getD (i + 2) 0 - l.getD (i + 1) 0) := rfl
      rw [hu]
      split <;> exact bd_set (bd_set (bd_set hN (by omega)) (by omega)) (by omega)
theorem gr_mem {l : List Int} {k : Nat} {p : Nat × Nat} (h : (grs l 0)[k]? = some p) : p.1 + p.2 < l.length ∧ many l p.1 = p.2 := gr_in l.length 0 (by omega) p (List.mem_of_getElem? h)
theorem W_bd {l : List Int} (hp : Plc 9 100000 l) : ∀ k : Nat, Bd (W l k) (20000000 * (k : Int))
  | 0 => fun j => by
    have : (W l 0).getD j 0 = 0 := by
      show (List.replicate l.length (0 : Int)).getD j 0 = 0
      rw [List.getD_eq_getElem?_getD, List.getElem?_replicate]
      split <;> rfl
    rw [this]; omega
  | k + 1 => by
    cases hk : (grs l 0)[k]? with
    | none =>
      have h1 : W l (k + 1) = W l k := by unfold W; rw [List.take_add_one, hk]; simp
      rw [h1]
      intro j
      have := W_bd hp k j
      omega
    | some p =>
      rw [W_succ hk]
      obtain ⟨h1, h2⟩ := gr_mem hk
      have := step_bd hp h1 h2 (by omega) (W_bd hp k)
      intro j
      have := this j
      omega
theorem wts_bd {l : List Int} (hp : Plc 9 100000 l) : Bd (wts l) 200000000 := by
  intro j
  have h1 := W_bd hp (grs l 0).length j
  rw [W_end (Nat.le_refl _)] at h1
  have := gr_len (l := l) l.length 0 (by omega)
  have := hp.hm
  omega
theorem get_some {α : Type} {l : List α} {k : Nat} (h : k < l.length) : ∃ p, l[k]? = some p := ⟨l[k], List.getElem?_eq_getElem h⟩
theorem flat2_seg {G : List (Nat × Nat)} {k i m : Nat} (h : G[k]? = some (i, m)) : segL (flat2 G) (0 + k * 2) 2 = some [.int .i64 (i : Int), .int .i64 (m : Int)] := by
  obtain ⟨h1, h2⟩ := flat2_get h
  rw [Nat.zero_add]
  simp only [segL, h1, h2]
theorem flat2_at0 {G : List (Nat × Nat)} {k i m : Nat} (h : G[k]? = some (i, m)) : (flat2 G)[0 + k * 2 + 0]? = some (.int .i64 (i : Int)) := by
  rw [Nat.zero_add]; exact (flat2_get h).1
theorem flat2_at1 {G : List (Nat × Nat)} {k i m : Nat} (h : G[k]? = some (i, m)) : (flat2 G)[0 + k * 2 + 1]? = some (.int .i64 (m : Int)) := by
  rw [Nat.zero_add]; exact (flat2_get h).2

section
variable {X : FuncId → List Value → St → (Value → St → Bool) → Bool}
theorem weightsOf_s (n : Nat) (a : Option Addr) (cap : Nat) (l : List Int) (s : St) (hs : Wf s) (hn : 562949953421312 ≤ n) (hl : IntsE s a l) (hp : Plc 9 100000 l) : Spec Tryz.prog (tabK tabw) X (n + 900) 129 [.slice a l.length cap] s (fun v A => ∃ b, v = .slice (some ⟨b, 0, none⟩) l.length l.length ∧ A = [.row b 3 false (ints (wts l))]) := by
 refine enter bw129_at rfl hs ?_
 unfold bw129
 have hlen := hl.len
 have hm9 := hp.hm
 have hG9 := gr_len (l := l) l.length 0 (by omega)
 refine rS (kM rfl rfl (i_nil (rS (kM rfl rfl (kO rfl (a_lenx rfl hl.spot (kO rfl (a_mksI rfl rfl (by omega) (by omega) (by omega) (fun b1 => (kO rfl (a_build rfl rfl (kO rfl (a_new rfl rfl (fun b2 => (kZ rfl (a_sta rfl rfl .here rfl rfl rfl rfl (i_nil (rS (kM rfl rfl (kO rfl (a_fn rfl rfl (kG rfl rfl (a_inl rfl rfl bw161_at rfl ?_)))))))))))))))))))))))
 unfold bw161
 refine rS (kM rfl rfl (kO rfl (a_call rfl rfl (fun s1 h1 => groupsOf_s _ _ _ _ s1 h1.wf (by omega) (hl.ext hs h1.2.1) hp) (fun v1 A1 q1 => ?_))))
 obtain ⟨b3, rfl, rfl⟩ := q1
 refine kO rfl (a_len rfl (kM rfl rfl (i_nil (r_block (r_loop (fun j e A => ∃ (k : Nat), e = [(0, .slice a l.length cap), (1, .func (.func 162) ⟨[.pointer (some ⟨b2, 0, none⟩)]⟩ ⟨[]⟩), (7, .slice (some ⟨b3, 0, none⟩) (grs l 0).length OPEN), (8, .int .i64 ((grs l 0).length : Int)), (9, .int .i64 (k : Int))] ∧ A = (.row b3 215 true (flat2 (grs l 0)) :: (.row b2 208 false ([.slice (some ⟨b1, 0, none⟩) l.length l.length, .slice none 0 0, .int .i64 0]) :: (.row b1 3 false (ints (W l k)) :: []))) ∧ j = (grs l 0).length - k ∧ k ≤ (grs l 0).length) 400 0 281474976710656 ?_ (j := _) (env2 := _) (A2 := _) ?_ ?_ ?_ ?_ ⟨0, rfl, rfl, rfl, by omega⟩)))))
 rotate_left
 ·omega
 ·omega
 ·exact (lc 0 rfl (lc 1 rfl (lc 7 rfl (lc 8 rfl (lc 9 rfl Less.nil)))))
 ·exact (.cons_cons _ (.cons_cons _ (.cons_cons _ .slnil)))
 rintro n hn j _ _ ⟨k, rfl, rfl, rfl, hkl⟩
 refine rS (kO rfl (a_lss rfl rfl (fun h4 => ?_) (fun h4 => ?_)))
 ·obtain ⟨⟨i, m⟩, hgk⟩ := get_some (l := grs l 0) (k := k) (by omega)
  obtain ⟨hin, hmm⟩ := gr_mem hgk
  simp only at hin hmm
  have hmc := many_cases l i
  have z0 := hp.lo (i)
  have z1 := hp.lo (i + 1)
  have z2 := hp.lo (i + 2)
  have r0 : i + 1 < l.length → l.getD (i) 0 < l.getD (i + 1) 0 := fun h => hp.rise _ h
  have r1 : i + 2 < l.length → l.getD (i + 1) 0 < l.getD (i + 2) 0 := fun h => hp.rise _ h
  have hm9 := hp.hm
  have h29 := hp.h2
  have b0 := W_bd hp k i
  have b1 := W_bd hp k (i + 1)
  have b2 := W_bd hp k (i + 2)
  have hG9 := gr_len (l := l) l.length 0 (by omega)
  refine i_nil (rQ (r_cond_t rfl (r_skip (then_n (rQ (r_block (rS (kO rfl (a_ia (j := k) rfl rfl (by omega) (by omega) (kO rfl (a_lda rfl (by decide) .here (flat2_seg hgk) (kO rfl (a_new rfl rfl (fun b5 => (kZ rfl (a_sta rfl rfl .here rfl rfl rfl rfl (i_nil (rS (kO rfl (a_fa rfl (kO rfl (a_ld rfl .here rfl (kO rfl (a_eql rfl rfl (fun h6 => ?_) (fun h6 => ?_)))))))))))))))))))))))))
  ·have hm1 : m = 1 := by omega
   refine i_nil (r_cond_t rfl (rI (kM rfl rfl (kO rfl (a_fa rfl (kO rfl (a_ld rfl .here rfl (kM rfl rfl (kG rfl rfl (a_inl rfl rfl bw180_at rfl ?_))))))))))
   unfold bw180
   refine rS (kM rfl rfl (kM rfl rfl (kO rfl (a_add rfl rfl (by omega) (kO rfl (a_iaI (j := i + 1) hl rfl rfl (by omega) (by simp) (by omega) (fun _ _ a7 => (kO rfl (a_ldr rfl (hl.at a7 (by omega)) (kM rfl rfl (kM rfl rfl (kO rfl (a_iaI (j := i) hl rfl rfl (by omega) (by simp) (by omega) (fun _ _ a8 => (kO rfl (a_ldr rfl (hl.at a8 (by omega)) (kO rfl (a_sub rfl rfl (by omega) (kO rfl (a_mul rfl rfl (by omega) (kM rfl rfl (i_nil (rS (kM rfl rfl (kM rfl rfl (kM rfl rfl (kG rfl rfl (a_inl rfl rfl bw162_at rfl ?_))))))))))))))))))))))))))))
   unfold bw162
   refine rI (kM rfl rfl (kO rfl (a_nilc rfl (kO rfl (a_fa rfl (kO rfl (a_ld rfl (.next (.next .here)) rfl (kM rfl rfl (kO rfl (a_ia (j := i) rfl rfl (by omega) (by omega) (kO rfl (a_ldX (x := (W l k).getD (i) 0) rfl (.next (.next (.next .here))) (by simp [wlen]; omega) (by first | rfl | (rw [getD_set_ne (by omega), getD_set_ne (by omega)]; done) | (rw [getD_set_ne (by omega)]; done)) (kM rfl rfl (kO rfl (a_add rfl rfl (by omega) (kO rfl (a_ia (j := i) rfl rfl (by omega) (by omega) (kZ rfl (a_stI rfl rfl (.next (.next (.next .here))) (by first | omega | (simp; done) | (simp [wlen]; omega) | (simp; omega)) (i_nil (endD0n .nil (i_nil (rI (kM rfl rfl (kM rfl rfl (kO rfl (a_add rfl rfl (by omega) (kM rfl rfl (kG rfl rfl (a_inl rfl rfl bw162_at rfl ?_))))))))))))))))))))))))))))))
   unfold bw162
   refine rI (kM rfl rfl (kO rfl (a_nilc rfl (kO rfl (a_fa rfl (kO rfl (a_ld rfl (.next (.next .here)) rfl (kM rfl rfl (kO rfl (a_ia (j := i + 1) rfl rfl (by omega) (by omega) (kO rfl (a_ldX (x := (W l k).getD (i + 1) 0) rfl (.next (.next (.next .here))) (by simp [wlen]; omega) (by first | rfl | (rw [getD_set_ne (by omega), getD_set_ne (by omega)]; done) | (rw [getD_set_ne (by omega)]; done)) (kM rfl rfl (kO rfl (a_add rfl rfl (by omega) (kO rfl (a_ia (j := i + 1) rfl rfl (by omega) (by omega) (kZ rfl (a_stI rfl rfl (.next (.next (.next .here))) (by first | omega | (simp; done) | (simp [wlen]; omega) | (simp; omega)) (i_nil (endD0n .nil (i_nil (endD0n .nil (i_nil (block_n (then_n (rI (kO rfl (a_add rfl rfl (by omega) (kM rfl rfl (i_nil (then_n ?_))))))))))))))))))))))))))))))))
   exact ⟨rfl, _, _, _, (show (grs l 0).length - (k + 1) < (grs l 0).length - k by omega), (lc 0 rfl (lc 1 rfl (lc 7 rfl (lc 8 rfl (lc 9 rfl Less.nil))))), (.cons _ (.cons_cons _ (.cons_cons _ (.cons_cons _ .slnil)))), ⟨k + 1, rfl, (by first
  | (rw [W_one hgk hm1]; first | done | rfl)
  | (rw [W_two hgk hm2 hk]; unfold step2; dsimp only; rw [if_pos (by assumption)]; first | done | rfl)
  | (rw [W_two hgk hm2 hk]; unfold step2; dsimp only; rw [if_neg (by assumption)]; first | done | rfl)), rfl, by omega⟩⟩
  ·have hm2 : m = 2 := by omega
   have hrat := many_ne (hmm.trans hm2)
   refine i_nil (r_cond_f rfl (rI (kM rfl rfl (kO rfl (a_fa rfl (kO rfl (a_ld rfl .here rfl (kM rfl rfl (kG rfl rfl (a_inl rfl rfl bw181_at rfl ?_))))))))))
   unfold bw181
   refine rS (kM rfl rfl (kM rfl rfl (kO rfl (a_add rfl rfl (by omega) (kO rfl (a_iaI (j := i + 1) hl rfl rfl (by omega) (by simp) (by omega) (fun _ _ a9 => (kO rfl (a_ldr rfl (hl.at a9 (by omega)) (kM rfl rfl (kM rfl rfl (kO rfl (a_iaI (j := i) hl rfl rfl (by omega) (by simp) (by omega) (fun _ _ a10 => (kO rfl (a_ldr rfl (hl.at a10 (by omega)) (kO rfl (a_sub rfl rfl (by omega) (kM rfl rfl (kM rfl rfl (kO rfl (a_add rfl rfl (by omega) (kO rfl (a_iaI (j := i + 2) hl rfl rfl (by omega) (by simp) (by omega) (fun _ _ a11 => (kO rfl (a_ldr rfl (hl.at a11 (by omega)) (kM rfl rfl (kM rfl rfl (kO rfl (a_add rfl rfl (by omega) (kO rfl (a_iaI (j := i + 1) hl rfl rfl (by omega) (by simp) (by omega) (fun _ _ a12 => (kO rfl (a_ldr rfl (hl.at a12 (by omega)) (kO rfl (a_sub rfl rfl (by omega) (kM rfl rfl (kM rfl rfl ?_))))))))))))))))))))))))))))))))))))))))
   refine i_nil (rS (kM rfl rfl (kM rfl rfl (kO rfl (a_call rfl rfl (fun s1 h1 => ratio_s _ _ _ s1 h1.wf (by omega) (by omega)) (fun v1 A1 q1 => ?_))))))
   obtain ⟨rfl, rfl⟩ := q1
   rcases rat_pos hrat with hk | hk | hk
   ·rw [hk]
    refine kM rfl rfl (i_nil (rS (kM rfl rfl (kO rfl (a_quoc (q := 6) rfl rfl (by decide) rfl (by decide) (kM rfl rfl (kO rfl (a_add rfl rfl (by decide) (kO rfl (a_mul rfl rfl (by decide) (kM rfl rfl (kM rfl rfl (kO rfl (a_min rfl (kO rfl (a_mul rfl rfl (by omega) (kM rfl rfl (i_nil (rS (kM rfl rfl (kM rfl rfl (kO rfl (a_mul rfl rfl (by omega) (kM rfl rfl (kO rfl (a_sub rfl rfl (by decide) (kO rfl (a_mul rfl rfl (by omega) (kM rfl rfl (kM rfl rfl (kO rfl (a_mul rfl rfl (by decide) ?_))))))))))))))))))))))))))))))))
    refine kO rfl (a_sub rfl rfl (by decide) (kO rfl (a_mul rfl rfl (by omega) (kM rfl rfl (kM rfl rfl (i_nil (rQ (rS (kM rfl rfl (kM rfl rfl (kO rfl (a_gtr rfl rfl (fun h13 => ?_) (fun h13 => ?_)))))))))))))
    ·refine i_nil (r_cond_t rfl (rI (kM rfl rfl (kM rfl rfl (kM rfl rfl (kM rfl rfl (i_nil (then_n (rS (kM rfl rfl (kM rfl rfl (kM rfl rfl (kG rfl rfl (a_inl rfl rfl bw162_at rfl ?_))))))))))))))
     unfold bw162
     refine rI (kM rfl rfl (kO rfl (a_nilc rfl (kO rfl (a_fa rfl (kO rfl (a_ld rfl (.next (.next .here)) rfl (kM rfl rfl (kO rfl (a_ia (j := i) rfl rfl (by omega) (by omega) (kO rfl (a_ldX (x := (W l k).getD (i) 0) rfl (.next (.next (.next .here))) (by simp [wlen]; omega) (by first | rfl | (rw [getD_set_ne (by omega), getD_set_ne (by omega)]; done) | (rw [getD_set_ne (by omega)]; done)) (kM rfl rfl (kO rfl (a_add rfl rfl (by omega) (kO rfl (a_ia (j := i) rfl rfl (by omega) (by omega) (kZ rfl (a_stI rfl rfl (.next (.next (.next .here))) (by first | omega | (simp; done) | (simp [wlen]; omega) | (simp; omega)) (i_nil (endD0n .nil (i_nil (rS (kM rfl rfl (kM rfl rfl (kO rfl (a_add rfl rfl (by omega) (kM rfl rfl (kM rfl rfl (kO rfl (a_add rfl rfl (by decide) (kO rfl (a_mul rfl rfl (by omega) (kM rfl rfl ?_))))))))))))))))))))))))))))))))))
     refine kO rfl (a_add rfl rfl (by decide) (kO rfl (a_mul rfl rfl (by omega) (kG rfl rfl (a_inl rfl rfl bw162_at rfl ?_)))))
     unfold bw162
     refine rI (kM rfl rfl (kO rfl (a_nilc rfl (kO rfl (a_fa rfl (kO rfl (a_ld rfl (.next (.next .here)) rfl (kM rfl rfl (kO rfl (a_ia (j := i + 1) rfl rfl (by omega) (by omega) (kO rfl (a_ldX (x := (W l k).getD (i + 1) 0) rfl (.next (.next (.next .here))) (by simp [wlen]; omega) (by first | rfl | (rw [getD_set_ne (by omega), getD_set_ne (by omega)]; done) | (rw [getD_set_ne (by omega)]; done)) (kM rfl rfl (kO rfl (a_add rfl rfl (by omega) (kO rfl (a_ia (j := i + 1) rfl rfl (by omega) (by omega) (kZ rfl (a_stI rfl rfl (.next (.next (.next .here))) (by first | omega | (simp; done) | (simp [wlen]; omega) | (simp; omega)) (i_nil (endD0n .nil (i_nil (rI (kM rfl rfl (kM rfl rfl (kO rfl (a_add rfl rfl (by omega) (kM rfl rfl (kG rfl rfl (a_inl rfl rfl bw162_at rfl ?_))))))))))))))))))))))))))))))
     unfold bw162
     refine rI (kM rfl rfl (kO rfl (a_nilc rfl (kO rfl (a_fa rfl (kO rfl (a_ld rfl (.next (.next .here)) rfl (kM rfl rfl (kO rfl (a_ia (j := i + 2) rfl rfl (by omega) (by omega) (kO rfl (a_ldX (x := (W l k).getD (i + 2) 0) rfl (.next (.next (.next .here))) (by simp [wlen]; omega) (by first | rfl | (rw [getD_set_ne (by omega), getD_set_ne (by omega)]; done) | (rw [getD_set_ne (by omega)]; done)) (kM rfl rfl (kO rfl (a_add rfl rfl (by omega) (kO rfl (a_ia (j := i + 2) rfl rfl (by omega) (by omega) (kZ rfl (a_stI rfl rfl (.next (.next (.next .here))) (by first | omega | (simp; done) | (simp [wlen]; omega) | (simp; omega)) (i_nil (endD0n .nil (i_nil (endD0n .nil (i_nil (block_n (then_n (rI (kO rfl (a_add rfl rfl (by omega) (kM rfl rfl (i_nil (then_n ?_))))))))))))))))))))))))))))))))
     exact ⟨rfl, _, _, _, (show (grs l 0).length - (k + 1) < (grs l 0).length - k by omega), (lc 0 rfl (lc 1 rfl (lc 7 rfl (lc 8 rfl (lc 9 rfl Less.nil))))), (.cons _ (.cons_cons _ (.cons_cons _ (.cons_cons _ .slnil)))), ⟨k + 1, rfl, (by first
  | (rw [W_one hgk hm1]; first | done | rfl)
  | (rw [W_two hgk hm2 hk]; unfold step2; dsimp only; rw [if_pos (by assumption)]; first | done | rfl)
  | (rw [W_two hgk hm2 hk]; unfold step2; dsimp only; rw [if_neg (by assumption)]; first | done | rfl)), rfl, by omega⟩⟩
    ·refine i_nil (r_cond_f rfl (r_skip (then_n (rS (kM rfl rfl (kM rfl rfl (kM rfl rfl (kG rfl rfl (a_inl rfl rfl bw162_at rfl ?_)))))))))
     unfold bw162
     refine rI (kM rfl rfl (kO rfl (a_nilc rfl (kO rfl (a_fa rfl (kO rfl (a_ld rfl (.next (.next .here)) rfl (kM rfl rfl (kO rfl (a_ia (j := i) rfl rfl (by omega) (by omega) (kO rfl (a_ldX (x := (W l k).getD (i) 0) rfl (.next (.next (.next .here))) (by simp [wlen]; omega) (by first | rfl | (rw [getD_set_ne (by omega), getD_set_ne (by omega)]; done) | (rw [getD_set_ne (by omega)]; done)) (kM rfl rfl (kO rfl (a_add rfl rfl (by omega) (kO rfl (a_ia (j := i) rfl rfl (by omega) (by omega) (kZ rfl (a_stI rfl rfl (.next (.next (.next .here))) (by first | omega | (simp; done) | (simp [wlen]; omega) | (simp; omega)) (i_nil (endD0n .nil (i_nil (rS (kM rfl rfl (kM rfl rfl (kO rfl (a_add rfl rfl (by omega) (kM rfl rfl (kM rfl rfl (kO rfl (a_add rfl rfl (by decide) (kO rfl (a_mul rfl rfl (by omega) (kM rfl rfl ?_))))))))))))))))))))))))))))))))))
     refine kO rfl (a_add rfl rfl (by decide) (kO rfl (a_mul rfl rfl (by omega) (kG rfl rfl (a_inl rfl rfl bw162_at rfl ?_)))))
     unfold bw162
     refine rI (kM rfl rfl (kO rfl (a_nilc rfl (kO rfl (a_fa rfl (kO rfl (a_ld rfl (.next (.next .here)) rfl (kM rfl rfl (kO rfl (a_ia (j := i + 1) rfl rfl (by omega) (by omega) (kO rfl (a_ldX (x := (W l k).getD (i + 1) 0) rfl (.next (.next (.next .here))) (by simp [wlen]; omega) (by first | rfl | (rw [getD_set_ne (by omega), getD_set_ne (by omega)]; done) | (rw [getD_set_ne (by omega)]; done)) (kM rfl rfl (kO rfl (a_add rfl rfl (by omega) (kO rfl (a_ia (j := i + 1) rfl rfl (by omega) (by omega) (kZ rfl (a_stI rfl rfl (.next (.next (.next .here))) (by first | omega | (simp; done) | (simp [wlen]; omega) | (simp; omega)) (i_nil (endD0n .nil (i_nil (rI (kM rfl rfl (kM rfl rfl (kO rfl (a_add rfl rfl (by omega) (kM rfl rfl (kG rfl rfl (a_inl rfl rfl bw162_at rfl ?_))))))))))))))))))))))))))))))
     unfold bw162
     refine rI (kM rfl rfl (kO rfl (a_nilc rfl (kO rfl (a_fa rfl (kO rfl (a_ld rfl (.next (.next .here)) rfl (kM rfl rfl (kO rfl (a_ia (j := i + 2) rfl rfl (by omega) (by omega) (kO rfl (a_ldX (x := (W l k).getD (i + 2) 0) rfl (.next (.next (.next .here))) (by simp [wlen]; omega) (by first | rfl | (rw [getD_set_ne (by omega), getD_set_ne (by omega)]; done) | (rw [getD_set_ne (by omega)]; done)) (kM rfl rfl (kO rfl (a_add rfl rfl (by omega) (kO rfl (a_ia (j := i + 2) rfl rfl (by omega) (by omega) (kZ rfl (a_stI rfl rfl (.next (.next (.next .here))) (by first | omega | (simp; done) | (simp [wlen]; omega) | (simp; omega)) (i_nil (endD0n .nil (i_nil (endD0n .nil (i_nil (block_n (then_n (rI (kO rfl (a_add rfl rfl (by omega) (kM rfl rfl (i_nil (then_n ?_))))))))))))))))))))))))))))))))
     exact ⟨rfl, _, _, _, (show (grs l 0).length - (k + 1) < (grs l 0).length - k by omega), (lc 0 rfl (lc 1 rfl (lc 7 rfl (lc 8 rfl (lc 9 rfl Less.nil))))), (.cons _ (.cons_cons _ (.cons_cons _ (.cons_cons _ .slnil)))), ⟨k + 1, rfl, (by first
  | (rw [W_one hgk hm1]; first | done | rfl)
  | (rw [W_two hgk hm2 hk]; unfold step2; dsimp only; rw [if_pos (by assumption)]; first | done | rfl)
  | (rw [W_two hgk hm2 hk]; unfold step2; dsimp only; rw [if_neg (by assumption)]; first | done | rfl)), rfl, by omega⟩⟩
   ·rw [hk]
    refine kM rfl rfl (i_nil (rS (kM rfl rfl (kO rfl (a_quoc (q := 3) rfl rfl (by decide) rfl (by decide) (kM rfl rfl (kO rfl (a_add rfl rfl (by decide) (kO rfl (a_mul rfl rfl (by decide) (kM rfl rfl (kM rfl rfl (kO rfl (a_min rfl (kO rfl (a_mul rfl rfl (by omega) (kM rfl rfl (i_nil (rS (kM rfl rfl (kM rfl rfl (kO rfl (a_mul rfl rfl (by omega) (kM rfl rfl (kO rfl (a_sub rfl rfl (by decide) (kO rfl (a_mul rfl rfl (by omega) (kM rfl rfl (kM rfl rfl (kO rfl (a_mul rfl rfl (by decide) ?_))))))))))))))))))))))))))))))))
    refine kO rfl (a_sub rfl rfl (by decide) (kO rfl (a_mul rfl rfl (by omega) (kM rfl rfl (kM rfl rfl (i_nil (rQ (rS (kM rfl rfl (kM rfl rfl (kO rfl (a_gtr rfl rfl (fun h14 => ?_) (fun h14 => ?_)))))))))))))
    ·refine i_nil (r_cond_t rfl (rI (kM rfl rfl (kM rfl rfl (kM rfl rfl (kM rfl rfl (i_nil (then_n (rS (kM rfl rfl (kM rfl rfl (kM rfl rfl (kG rfl rfl (a_inl rfl rfl bw162_at rfl ?_))))))))))))))
     unfold bw162
     refine rI (kM rfl rfl (kO rfl (a_nilc rfl (kO rfl (a_fa rfl (kO rfl (a_ld rfl (.next (.next .here)) rfl (kM rfl rfl (kO rfl (a_ia (j := i) rfl rfl (by omega) (by omega) (kO rfl (a_ldX (x := (W l k).getD (i) 0) rfl (.next (.next (.next .here))) (by simp [wlen]; omega) (by first | rfl | (rw [getD_set_ne (by omega), getD_set_ne (by omega)]; done) | (rw [getD_set_ne (by omega)]; done)) (kM rfl rfl (kO rfl (a_add rfl rfl (by omega) (kO rfl (a_ia (j := i) rfl rfl (by omega) (by omega) (kZ rfl (a_stI rfl rfl (.next (.next (.next .here))) (by first | omega | (simp; done) | (simp [wlen]; omega) | (simp; omega)) (i_nil (endD0n .nil (i_nil (rS (kM rfl rfl (kM rfl rfl (kO rfl (a_add rfl rfl (by omega) (kM rfl rfl (kM rfl rfl (kO rfl (a_add rfl rfl (by decide) (kO rfl (a_mul rfl rfl (by omega) (kM rfl rfl ?_))))))))))))))))))))))))))))))))))
     refine kO rfl (a_add rfl rfl (by decide) (kO rfl (a_mul rfl rfl (by omega) (kG rfl rfl (a_inl rfl rfl bw162_at rfl ?_)))))
     unfold bw162
     refine rI (kM rfl rfl (kO rfl (a_nilc rfl (kO rfl (a_fa rfl (kO rfl (a_ld rfl (.next (.next .here)) rfl (kM rfl rfl (kO rfl (a_ia (j := i + 1) rfl rfl (by omega) (by omega) (kO rfl (a_ldX (x := (W l k).getD (i + 1) 0) rfl (.next (.next (.next .here))) (by simp [wlen]; omega) (by first | rfl | (rw [getD_set_ne (by omega), getD_set_ne (by omega)]; done) | (rw [getD_set_ne (by omega)]; done)) (kM rfl rfl (kO rfl (a_add rfl rfl (by omega) (kO rfl (a_ia (j := i + 1) rfl rfl (by omega) (by omega) (kZ rfl (a_stI rfl rfl (.next (.next (.next .here))) (by first | omega | (simp; done) | (simp [wlen]; omega) | (simp; omega)) (i_nil (endD0n .nil (i_nil (rI (kM rfl rfl (kM rfl rfl (kO rfl (a_add rfl rfl (by omega) (kM rfl rfl (kG rfl rfl (a_inl rfl rfl bw162_at rfl ?_))))))))))))))))))))))))))))))
     unfold bw162
     refine rI (kM rfl rfl (kO rfl (a_nilc rfl (kO rfl (a_fa rfl (kO rfl (a_ld rfl (.next (.next .here)) rfl (kM rfl rfl (kO rfl (a_ia (j := i + 2) rfl rfl (by omega) (by omega) (kO rfl (a_ldX (x := (W l k).getD (i + 2) 0) rfl (.next (.next (.next .here))) (by simp [wlen]; omega) (by first | rfl | (rw [getD_set_ne (by omega), getD_set_ne (by omega)]; done) | (rw [getD_set_ne (by omega)]; done)) (kM rfl rfl (kO rfl (a_add rfl rfl (by omega) (kO rfl (a_ia (j := i + 2) rfl rfl (by omega) (by omega) (kZ rfl (a_stI rfl rfl (.next (.next (.next .here))) (by first | omega | (simp; done) | (simp [wlen]; omega) | (simp; omega)) (i_nil (endD0n .nil (i_nil (endD0n .nil (i_nil (block_n (then_n (rI (kO rfl (a_add rfl rfl (by omega) (kM rfl rfl (i_nil (then_n ?_))))))))))))))))))))))))))))))))
     exact ⟨rfl, _, _, _, (show (grs l 0).length - (k + 1) < (grs l 0).length - k by omega), (lc 0 rfl (lc 1 rfl (lc 7 rfl (lc 8 rfl (lc 9 rfl Less.nil))))), (.cons _ (.cons_cons _ (.cons_cons _ (.cons_cons _ .slnil)))), ⟨k + 1, rfl, (by first
  | (rw [W_one hgk hm1]; first | done | rfl)
  | (rw [W_two hgk hm2 hk]; unfold step2; dsimp only; rw [if_pos (by assumption)]; first | done | rfl)
  | (rw [W_two hgk hm2 hk]; unfold step2; dsimp only; rw [if_neg (by assumption)]; first | done | rfl)), rfl, by omega⟩⟩
    ·refine i_nil (r_cond_f rfl (r_skip (then_n (rS (kM rfl rfl (kM rfl rfl (kM rfl rfl (kG rfl rfl (a_inl rfl rfl bw162_at rfl ?_)))))))))
     unfold bw162
     refine rI (kM rfl rfl (kO rfl (a_nilc rfl (kO rfl (a_fa rfl (kO rfl (a_ld rfl (.next (.next .here)) rfl (kM rfl rfl (kO rfl (a_ia (j := i) rfl rfl (by omega) (by omega) (kO rfl (a_ldX (x := (W l k).getD (i) 0) rfl (.next (.next (.next .here))) (by simp [wlen]; omega) (by first | rfl | (rw [getD_set_ne (by omega), getD_set_ne (by omega)]; done) | (rw [getD_set_ne (by omega)]; done)) (kM rfl rfl (kO rfl (a_add rfl rfl (by omega) (kO rfl (a_ia (j := i) rfl rfl (by omega) (by omega) (kZ rfl (a_stI rfl rfl (.next (.next (.next .here))) (by first | omega | (simp; done) | (simp [wlen]; omega) | (simp; omega)) (i_nil (endD0n .nil (i_nil (rS (kM rfl rfl (kM rfl rfl (kO rfl (a_add rfl rfl (by omega) (kM rfl rfl (kM rfl rfl (kO rfl (a_add rfl rfl (by decide) (kO rfl (a_mul rfl rfl (by omega) (kM rfl rfl ?_))))))))))))))))))))))))))))))))))
     refine kO rfl (a_add rfl rfl (by decide) (kO rfl (a_mul rfl rfl (by omega) (kG rfl rfl (a_inl rfl rfl bw162_at rfl ?_)))))
     unfold bw162
     refine rI (kM rfl rfl (kO rfl (a_nilc rfl (kO rfl (a_fa rfl (kO rfl (a_ld rfl (.next (.next .here)) rfl (kM rfl rfl (kO rfl (a_ia (j := i + 1) rfl rfl (by omega) (by omega) (kO rfl (a_ldX (x := (W l k).getD (i + 1) 0) rfl (.next (.next (.next .here))) (by simp [wlen]; omega) (by first | rfl | (rw [getD_set_ne (by omega), getD_set_ne (by omega)]; done) | (rw [getD_set_ne (by omega)]; done)) (kM rfl rfl (kO rfl (a_add rfl rfl (by omega) (kO rfl (a_ia (j := i + 1) rfl rfl (by omega) (by omega) (kZ rfl (a_stI rfl rfl (.next (.next (.next .here))) (by first | omega | (simp; done) | (simp [wlen]; omega) | (simp; omega)) (i_nil (endD0n .nil (i_nil (rI (kM rfl rfl (kM rfl rfl (kO rfl (a_add rfl rfl (by omega) (kM rfl rfl (kG rfl rfl (a_inl rfl rfl bw162_at rfl ?_))))))))))))))))))))))))))))))
     unfold bw162
     refine rI (kM rfl rfl (kO rfl (a_nilc rfl (kO rfl (a_fa rfl (kO rfl (a_ld rfl (.next (.next .here)) rfl (kM rfl rfl (kO rfl (a_ia (j := i + 2) rfl rfl (by omega) (by omega) (kO rfl (a_ldX (x := (W l k).getD (i + 2) 0) rfl (.next (.next (.next .here))) (by simp [wlen]; omega) (by first | rfl | (rw [getD_set_ne (by omega), getD_set_ne (by omega)]; done) | (rw [getD_set_ne (by omega)]; done)) (kM rfl rfl (kO rfl (a_add rfl rfl (by omega) (kO rfl (a_ia (j := i + 2) rfl rfl (by omega) (by omega) (kZ rfl (a_stI rfl rfl (.next (.next (.next .here))) (by first | omega | (simp; done) | (simp [wlen]; omega) | (simp; omega)) (i_nil (endD0n .nil (i_nil (endD0n .nil (i_nil (block_n (then_n (rI (kO rfl (a_add rfl rfl (by omega) (kM rfl rfl (i_nil (then_n ?_))))))))))))))))))))))))))))))))
     exact ⟨rfl, _, _, _, (show (grs l 0).length - (k + 1) < (grs l 0).length - k by omega), (lc 0 rfl (lc 1 rfl (lc 7 rfl (lc 8 rfl (lc 9 rfl Less.nil))))), (.cons _ (.cons_cons _ (.cons_cons _ (.cons_cons _ .slnil)))), ⟨k + 1, rfl, (by first
  | (rw [W_one hgk hm1]; first | done | rfl)
  | (rw [W_two hgk hm2 hk]; unfold step2; dsimp only; rw [if_pos (by assumption)]; first | done | rfl)
  | (rw [W_two hgk hm2 hk]; unfold step2; dsimp only; rw [if_neg (by assumption)]; first | done | rfl)), rfl, by omega⟩⟩
   ·rw [hk]
    refine kM rfl rfl (i_nil (rS (kM rfl rfl (kO rfl (a_quoc (q := 2) rfl rfl (by decide) rfl (by decide) (kM rfl rfl (kO rfl (a_add rfl rfl (by decide) (kO rfl (a_mul rfl rfl (by decide) (kM rfl rfl (kM rfl rfl (kO rfl (a_min rfl (kO rfl (a_mul rfl rfl (by omega) (kM rfl rfl (i_nil (rS (kM rfl rfl (kM rfl rfl (kO rfl (a_mul rfl rfl (by omega) (kM rfl rfl (kO rfl (a_sub rfl rfl (by decide) (kO rfl (a_mul rfl rfl (by omega) (kM rfl rfl (kM rfl rfl (kO rfl (a_mul rfl rfl (by decide) ?_))))))))))))))))))))))))))))))))
    refine kO rfl (a_sub rfl rfl (by decide) (kO rfl (a_mul rfl rfl (by omega) (kM rfl rfl (kM rfl rfl (i_nil (rQ (rS (kM rfl rfl (kM rfl rfl (kO rfl (a_gtr rfl rfl (fun h15 => ?_) (fun h15 => ?_)))))))))))))
    ·refine i_nil (r_cond_t rfl (rI (kM rfl rfl (kM rfl rfl (kM rfl rfl (kM rfl rfl (i_nil (then_n (rS (kM rfl rfl (kM rfl rfl (kM rfl rfl (kG rfl rfl (a_inl rfl rfl bw162_at rfl ?_))))))))))))))
     unfold bw162
     refine rI (kM rfl rfl (kO rfl (a_nilc rfl (kO rfl (a_fa rfl (kO rfl (a_ld rfl (.next (.next .here)) rfl (kM rfl rfl (kO rfl (a_ia (j := i) rfl rfl (by omega) (by omega) (kO rfl (a_ldX (x := (W l k).getD (i) 0) rfl (.next (.next (.next .here))) (by simp [wlen]; omega) (by first | rfl | (rw [getD_set_ne (by omega), getD_set_ne (by omega)]; done) | (rw [getD_set_ne (by omega)]; done)) (kM rfl rfl (kO rfl (a_add rfl rfl (by omega) (kO rfl (a_ia (j := i) rfl rfl (by omega) (by omega) (kZ rfl (a_stI rfl rfl (.next (.next (.next .here))) (by first | omega | (simp; done) | (simp [wlen]; omega) | (simp; omega)) (i_nil (endD0n .nil (i_nil (rS (kM rfl rfl (kM rfl rfl (kO rfl (a_add rfl rfl (by omega) (kM rfl rfl (kM rfl rfl (kO rfl (a_add rfl rfl (by decide) (kO rfl (a_mul rfl rfl (by omega) (kM rfl rfl ?_))))))))))))))))))))))))))))))))))
     refine kO rfl (a_add rfl rfl (by decide) (kO rfl (a_mul rfl rfl (by omega) (kG rfl rfl (a_inl rfl rfl bw162_at rfl ?_)))))
     unfold bw162
     refine rI (kM rfl rfl (kO rfl (a_nilc rfl (kO rfl (a_fa rfl (kO rfl (a_ld rfl (.next (.next .here)) rfl (kM rfl rfl (kO rfl (a_ia (j := i + 1) rfl rfl (by omega) (by omega) (kO rfl (a_ldX (x := (W l k).getD (i + 1) 0) rfl (.next (.next (.next .here))) (by simp [wlen]; omega) (by first | rfl | (rw [getD_set_ne (by omega), getD_set_ne (by omega)]; done) | (rw [getD_set_ne (by omega)]; done)) (kM rfl rfl (kO rfl (a_add rfl rfl (by omega) (kO rfl (a_ia (j := i + 1) rfl rfl (by omega) (by omega) (kZ rfl (a_stI rfl rfl (.next (.next (.next .here))) (by first | omega | (simp; done) | (simp [wlen]; omega) | (simp; omega)) (i_nil (endD0n .nil (i_nil (rI (kM rfl rfl (kM rfl rfl (kO rfl (a_add rfl rfl (by omega) (kM rfl rfl (kG rfl rfl (a_inl rfl rfl bw162_at rfl ?_))))))))))))))))))))))))))))))
     unfold bw162
     refine rI (kM rfl rfl (kO rfl (a_nilc rfl (kO rfl (a_fa rfl (kO rfl (a_ld rfl (.next (.next .here)) rfl (kM rfl rfl (kO rfl (a_ia (j := i + 2) rfl rfl (by omega) (by omega) (kO rfl (a_ldX (x := (W l k).getD (i + 2) 0) rfl (.next (.next (.next .here))) (by simp [wlen]; omega) (by first | rfl | (rw [getD_set_ne (by omega), getD_set_ne (by omega)]; done) | (rw [getD_set_ne (by omega)]; done)) (kM rfl rfl (kO rfl (a_add rfl rfl (by omega) (kO rfl (a_ia (j := i + 2) rfl rfl (by omega) (by omega) (kZ rfl (a_stI rfl rfl (.next (.next (.next .here))) (by first | omega | (simp; done) | (simp [wlen]; omega) | (simp; omega)) (i_nil (endD0n .nil (i_nil (endD0n .nil (i_nil (block_n (then_n (rI (kO rfl (a_add rfl rfl (by omega) (kM rfl rfl (i_nil (then_n ?_))))))))))))))))))))))))))))))))
     exact ⟨rfl, _, _, _, (show (grs l 0).length - (k + 1) < (grs l 0).length - k by omega), (lc 0 rfl (lc 1 rfl (lc 7 rfl (lc 8 rfl (lc 9 rfl Less.nil))))), (.cons _ (.cons_cons _ (.cons_cons _ (.cons_cons _ .slnil)))), ⟨k + 1, rfl, (by first
  | (rw [W_one hgk hm1]; first | done | rfl)
  | (rw [W_two hgk hm2 hk]; unfold step2; dsimp only; rw [if_pos (by assumption)]; first | done | rfl)
  | (rw [W_two hgk hm2 hk]; unfold step2; dsimp only; rw [if_neg (by assumption)]; first | done | rfl)), rfl, by omega⟩⟩
    ·refine i_nil (r_cond_f rfl (r_skip (then_n (rS (kM rfl rfl (kM rfl rfl (kM rfl rfl (kG rfl rfl (a_inl rfl rfl bw162_at rfl ?_)))))))))
     unfold bw162
     refine rI (kM rfl rfl (kO rfl (a_nilc rfl (kO rfl (a_fa rfl (kO rfl (a_ld rfl (.next (.next .here)) rfl (kM rfl rfl (kO rfl (a_ia (j := i) rfl rfl (by omega) (by omega) (kO rfl (a_ldX (x := (W l k).getD (i) 0) rfl (.next (.next (.next .here))) (by simp [wlen]; omega) (by first | rfl | (rw [getD_set_ne (by omega), getD_set_ne (by omega)]; done) | (rw [getD_set_ne (by omega)]; done)) (kM rfl rfl (kO rfl (a_add rfl rfl (by omega) (kO rfl (a_ia (j := i) rfl rfl (by omega) (by omega) (kZ rfl (a_stI rfl rfl (.next (.next (.next .here))) (by first | omega | (simp; done) | (simp [wlen]; omega) | (simp; omega)) (i_nil (endD0n .nil (i_nil (rS (kM rfl rfl (kM rfl rfl (kO rfl (a_add rfl rfl (by omega) (kM rfl rfl (kM rfl rfl (kO rfl (a_add rfl rfl (by decide) (kO rfl (a_mul rfl rfl (by omega) (kM rfl rfl ?_))))))))))))))))))))))))))))))))))
     refine kO rfl (a_add rfl rfl (by decide) (kO rfl (a_mul rfl rfl (by omega) (kG rfl rfl (a_inl rfl rfl bw162_at rfl ?_)))))
     unfold bw162
     refine rI (kM rfl rfl (kO rfl (a_nilc rfl (kO rfl (a_fa rfl (kO rfl (a_ld rfl (.next (.next .here)) rfl (kM rfl rfl (kO rfl (a_ia (j := i + 1) rfl rfl (by omega) (by omega) (kO rfl (a_ldX (x := (W l k).getD (i + 1) 0) rfl (.next (.next (.next .here))) (by simp [wlen]; omega) (by first | rfl | (rw [getD_set_ne (by omega), getD_set_ne (by omega)]; done) | (rw [getD_set_ne (by omega)]; done)) (kM rfl rfl (kO rfl (a_add rfl rfl (by omega) (kO rfl (a_ia (j := i + 1) rfl rfl (by omega) (by omega) (kZ rfl (a_stI rfl rfl (.next (.next (.next .here))) (by first | omega | (simp; done) | (simp [wlen]; omega) | (simp; omega)) (i_nil (endD0n .nil (i_nil (rI (kM rfl rfl (kM rfl rfl (kO rfl (a_add rfl rfl (by omega) (kM rfl rfl (kG rfl rfl (a_inl rfl rfl bw162_at rfl ?_))))))))))))))))))))))))))))))
     unfold bw162
     refine rI (kM rfl rfl (kO rfl (a_nilc rfl (kO rfl (a_fa rfl (kO rfl (a_ld rfl (.next (.next .here)) rfl (kM rfl rfl (kO rfl (a_ia (j := i + 2) rfl rfl (by omega) (by omega) (kO rfl (a_ldX (x := (W l k).getD (i + 2) 0) rfl (.next (.next (.next .here))) (by simp [wlen]; omega) (by first | rfl | (rw [getD_set_ne (by omega), getD_set_ne (by omega)]; done) | (rw [getD_set_ne (by omega)]; done)) (kM rfl rfl (kO rfl (a_add rfl rfl (by omega) (kO rfl (a_ia (j := i + 2) rfl rfl (by omega) (by omega) (kZ rfl (a_stI rfl rfl (.next (.next (.next .here))) (by first | omega | (simp; done) | (simp [wlen]; omega) | (simp; omega)) (i_nil (endD0n .nil (i_nil (endD0n .nil (i_nil (block_n (then_n (rI (kO rfl (a_add rfl rfl (by omega) (kM rfl rfl (i_nil (then_n ?_))))))))))))))))))))))))))))))))
     exact ⟨rfl, _, _, _, (show (grs l 0).length - (k + 1) < (grs l 0).length - k by omega), (lc 0 rfl (lc 1 rfl (lc 7 rfl (lc 8 rfl (lc 9 rfl Less.nil))))), (.cons _ (.cons_cons _ (.cons_cons _ (.cons_cons _ .slnil)))), ⟨k + 1, rfl, (by first
  | (rw [W_one hgk hm1]; first | done | rfl)
  | (rw [W_two hgk hm2 hk]; unfold step2; dsimp only; rw [if_pos (by assumption)]; first | done | rfl)
  | (rw [W_two hgk hm2 hk]; unfold step2; dsimp only; rw [if_neg (by assumption)]; first | done | rfl)), rfl, by omega⟩⟩
 ·refine i_nil (rQ (r_cond_f rfl (r_exit (then_e (then_e (block_hit (endD0n .nil (i_nil (rS (kO rfl (a_fa rfl (kO rfl (a_ld rfl (.next .here) rfl (kM rfl rfl (i_nil (r_ret ?_))))))))))))))))
  exact end1A rfl (.cons _ (.cons _ (.cons_cons _ .slnil))) ⟨b1, rfl, by rw [W_end (by omega)]⟩

end
end Ev
end Go.Proofs.YtfhfjcfhanmbiaaGreat

/- Contracts: grids, spaces. -/
namespace Go.Proofs.YtfhfjcfhanmbiaaGreat
open Go Go.RowKit
namespace Ev
theorem mul_bd {x y : Int} (hx : -200000000 ≤ x ∧ x ≤ 200000000) (hy : -200000000 ≤ y ∧ y ≤ 200000000) : -9223372036854775808 ≤ x * y ∧ x * y < 9223372036854775808 := by
  have h1 : (x * y).natAbs ≤ 200000000 * 200000000 := by
    rw [Int.natAbs_mul]
    exact Nat.mul_le_mul (by omega) (by omega)
  omega
theorem plan_p1 {l1 l2 : List Int} (h : planB l1 l2 = true) : Plc 9 100000 l1 := by
  unfold planB at h
  rw [Bool.and_eq_true] at h
  exact plc_of (by decide) h.1
theorem plan_q2 {l1 l2 : List Int} (h : planB l1 l2 = true) : Plc 7 15000 l2 := by
  unfold planB at h
  rw [Bool.and_eq_true] at h
  exact plc_of (by decide) h.2
theorem plan_p2 {l1 l2 : List Int} (h : planB l1 l2 = true) : Plc 9 100000 l2 := by
  have q := plan_q2 h
  exact ⟨q.h2, by have := q.hm; omega, fun k => by have := q.lo k; omega, q.rise⟩

section
variable {X : FuncId → List Value → St → (Value → St → Bool) → Bool}
theorem gridOf_s (n : Nat) (a1 a2 : Option Addr) (c1 c2 : Nat) (l1 l2 : List Int) (s : St) (hs : Wf s) (hn : 1125899906842624 ≤ n) (hl1 : IntsE s a1 l1) (hl2 : IntsE s a2 l2) (hp1 : Plc 9 100000 l1) (hp2 : Plc 9 100000 l2) : Spec Tryz.prog (tabK tabw) X (n + 1500) 86 [.slice a1 l1.length c1, .slice a2 l2.length c2] s (fun v A => A = []) := by
 refine enter bw86_at rfl hs ?_
 unfold bw86
 have hlen1 := hl1.len
 have hlen2 := hl2.len
 have hm1 := hp1.hm
 have hm2 := hp2.hm
 have hw1 := wts_len (l := l1)
 have hw2 := wts_len (l := l2)
 refine rS (kM rfl rfl (i_nil (rS (kM rfl rfl (kO rfl (a_call rfl rfl (fun s1 h1 => weightsOf_s _ _ _ _ s1 h1.wf (by omega) (hl2.ext hs h1.2.1) hp2) (fun v1 A1 q1 => ?_)))))))
 obtain ⟨b1, rfl, rfl⟩ := q1
 refine kM rfl rfl (i_nil (rS (kM rfl rfl (kO rfl (a_lenx rfl hl1.spot (kO rfl (a_mks1 (m := 0) rfl rfl (by omega) (by omega) (by omega) (fun b2 => (kM rfl rfl (i_nil (rQ (rS (kM rfl rfl (kO rfl (a_call rfl rfl (fun s1 h1 => weightsOf_s _ _ _ _ s1 h1.wf (by omega) (hl1.ext hs h1.2.1) hp1) (fun v1 A1 q1 => ?_))))))))))))))))
 obtain ⟨b3, rfl, rfl⟩ := q1
 refine kO rfl (a_len rfl (kM rfl rfl (i_nil (r_block (r_loop (fun j e A => ∃ (k : Nat) (R : List Value), e = [(5, .slice (some ⟨b1, 0, none⟩) l2.length l2.length), (6, .slice (some ⟨b2, 0, none⟩) k l1.length), (18, .slice (some ⟨b3, 0, none⟩) l1.length l1.length), (19, .int .i64 (l1.length : Int)), (20, .int .i64 (k : Int))] ∧ A = (.row b3 3 false (ints (wts l1)) :: (.row b2 22 false (R) :: (.row b1 3 false (ints (wts l2)) :: []))) ∧ j = l1.length - k ∧ k ≤ l1.length ∧ R.length = l1.length) 500 281474976710656 281474976710656 ?_ (j := _) (env2 := _) (A2 := _) ?_ ?_ ?_ ?_ ⟨0, List.replicate l1.length (.slice none 0 0), rfl, rfl, rfl, by omega, (by simp)⟩)))))
 rotate_left
 ·omega
 ·omega
 ·exact (lc 5 rfl (lc 6 rfl (lc 18 rfl (lc 19 rfl (lc 20 rfl Less.nil)))))
 ·exact (.cons_cons _ (.cons_cons _ (.cons_cons _ .slnil)))
 rintro n hn j _ _ ⟨k, R, rfl, rfl, rfl, hkl, hR⟩
 refine rS (kO rfl (a_lss rfl rfl (fun h4 => ?_) (fun h4 => ?_)))
 ·refine i_nil (rQ (r_cond_t rfl (r_skip (then_n (rQ (r_block (rS (kO rfl (a_ia (j := k) rfl rfl (by omega) (by omega) (kO rfl (a_ldI rfl .here (by first | omega | (simp; done) | (simp; omega)) (kM rfl rfl (i_nil (rS (kM rfl rfl (kO rfl (a_len rfl (kO rfl (a_mksI (m := 0) rfl rfl (by omega) (by omega) (by omega) (fun b5 => (kM rfl rfl (i_nil (rQ (rS (kM rfl rfl (kO rfl (a_len rfl (kM rfl rfl (i_nil ?_)))))))))))))))))))))))))))))
  refine r_block (r_loop (fun j e A => ∃ (y : Nat) (S : List Value), e = [(5, .slice (some ⟨b1, 0, none⟩) l2.length l2.length), (6, .slice (some ⟨b2, 0, none⟩) k l1.length), (18, .slice (some ⟨b3, 0, none⟩) l1.length l1.length), (19, .int .i64 (l1.length : Int)), (20, .int .i64 (k : Int)), (8, .int .i64 ((wts l1).getD k 0)), (9, .slice (some ⟨b5, 0, none⟩) y l2.length), (27, .slice (some ⟨b1, 0, none⟩) l2.length l2.length), (28, .int .i64 (l2.length : Int)), (29, .int .i64 (y : Int))] ∧ A = (.row b5 3 false (S) :: (.row b3 3 false (ints (wts l1)) :: (.row b2 22 false (R) :: (.row b1 3 false (ints (wts l2)) :: [])))) ∧ j = l2.length - y ∧ y ≤ l2.length ∧ S.length = l2.length) 300 0 281474976710656 ?_ (j := _) (env2 := _) (A2 := _) ?_ ?_ ?_ ?_ ⟨0, ints (List.replicate l2.length 0), rfl, rfl, rfl, by omega, (by simp [ints])⟩)
  rotate_left
  ·omega
  ·omega
  ·exact (lc 5 rfl (lc 6 rfl (lc 18 rfl (lc 19 rfl (lc 20 rfl (lc 8 rfl (lc 9 rfl (lc 27 rfl (lc 28 rfl (lc 29 rfl Less.nil))))))))))
  ·exact (.cons_cons _ (.cons_cons _ (.cons_cons _ (.cons_cons _ .slnil))))
  rintro n hn j _ _ ⟨y, S, rfl, rfl, rfl, hjl, hS⟩
  refine rS (kO rfl (a_lss rfl rfl (fun h6 => ?_) (fun h6 => ?_)))
  ·refine i_nil (rQ (r_cond_t rfl (r_skip (then_n (rQ (r_block (rS (kO rfl (a_ia (j := y) rfl rfl (by omega) (by omega) (kO rfl (a_ldI rfl (.next (.next (.next .here))) (by first | omega | (simp; done) | (simp; omega)) (kM rfl rfl (i_nil (rI (kM rfl rfl (kM rfl rfl (kM rfl rfl (kO rfl (a_mul rfl rfl (mul_bd (wts_bd hp1 k) (wts_bd hp2 y)) (kO rfl (a_lit rfl rfl rfl (fun b7 => (kO rfl (a_appc rfl rfl (Src.own .here rfl (by simp)) (.next .here) (by omega) (by omega) (by show _ < 18446744073709551616; omega) (by omega) (by omega) (kM rfl rfl (i_nil (block_n (then_n (rI ?_)))))))))))))))))))))))))))))
   refine kO rfl (a_add rfl rfl (by omega) (kM rfl rfl (i_nil (then_n ?_))))
   exact ⟨rfl, _, _, _, (show l2.length - (y + 1) < l2.length - y by omega), (lc 5 rfl (lc 6 rfl (lc 18 rfl (lc 19 rfl (lc 20 rfl (lc 8 rfl (lc 9 rfl (lc 27 rfl (lc 28 rfl (lc 29 rfl Less.nil)))))))))), (.cons _ (.cons_cons _ (.cons_cons _ (.cons_cons _ (.cons_cons _ .slnil))))), ⟨y + 1, _, rfl, rfl, rfl, by omega, (by simp [over]; omega)⟩⟩
  ·refine i_nil (rQ (r_cond_f rfl (r_exit (then_e (then_e (block_hit (then_n (rI (kM rfl rfl (kM rfl rfl (kO rfl (a_lit rfl rfl rfl (fun b9 => (kO rfl (a_appc rfl rfl (Src.own .here rfl (by simp)) (.next (.next (.next .here))) (by omega) (by omega) (by show _ < 18446744073709551616; omega) (by omega) (by omega) (kM rfl rfl (i_nil (block_n (then_n (rI (kO rfl (a_add rfl rfl (by omega) (kM rfl rfl (i_nil (then_n ?_)))))))))))))))))))))))))
   exact ⟨rfl, _, _, _, (show l1.length - (k + 1) < l1.length - k by omega), (lc 5 rfl (lc 6 rfl (lc 18 rfl (lc 19 rfl (lc 20 rfl Less.nil))))), (.cons _ (.cons _ (.cons_cons _ (.cons_cons _ (.cons_cons _ .slnil))))), ⟨k + 1, _, rfl, rfl, rfl, by omega, (by simp [over]; omega)⟩⟩
 ·refine i_nil (rQ (r_cond_f rfl (r_exit (then_e (then_e (block_hit (then_n (rS (kM rfl rfl (kM rfl rfl (i_nil (r_ret ?_))))))))))))
  exact end1A rfl (List.nil_sublist _) rfl

theorem Grid_s (n : Nat) (a1 a2 : Option Addr) (c1 c2 : Nat) (l1 l2 : List Int) (s : St) (hs : Wf s) (hn : 1407374883553280 ≤ n) (hl1 : IntsE s a1 l1) (hl2 : IntsE s a2 l2) : Spec Tryz.prog (tabK tabw) X (n + 1600) 45 [.slice a1 l1.length c1, .slice a2 l2.length c2] s (fun v A => ∃ x, v = .tuple #[x, .int .i64 (if planB l1 l2 = true then 0 else 12)] ∧ A = []) := by
 refine enter bw45_at rfl hs ?_
 unfold bw45
 have hlen1 := hl1.len
 have hlen2 := hl2.len
 refine rS (kM rfl rfl (kM rfl rfl (i_nil (rQ (rS (kM rfl rfl (kM rfl rfl (kO rfl (a_callE rfl rfl (fun s1 h1 => checkPlan_s _ _ _ _ _ _ _ s1 h1.wf (by omega) (hl1.ext hs h1.2.1) (hl2.ext hs h1.2.1)) (fun h1 => ?_) (fun h1 => ?_))))))))))
 ·have hp1 := plan_p1 h1
  have hp2 := plan_p2 h1
  refine kM rfl rfl (i_nil (rS (kM rfl rfl (kO rfl (a_neq rfl rfl (fun h => absurd h (by decide)) (fun _ => (i_nil (r_cond_f rfl (r_skip (then_n (rS (kM rfl rfl (kM rfl rfl (kO rfl (a_call rfl rfl (fun s1 h1 => gridOf_s _ _ _ _ _ _ _ s1 h1.wf (by omega) (hl1.ext hs h1.2.1) (hl2.ext hs h1.2.1) hp1 hp2) (fun v1 A1 q1 => ?_))))))))))))))))
  subst q1
  refine kM rfl rfl (kM rfl rfl (i_nil (r_ret ?_)))
  first
   | exact end2A rfl rfl (List.nil_sublist _) ⟨_, by rw [if_pos (by assumption)], rfl⟩
   | exact end2A rfl rfl (List.nil_sublist _) ⟨_, by rw [if_neg (by assumption)], rfl⟩
 ·refine kM rfl rfl (i_nil (rS (kM rfl rfl (kO rfl (a_neq rfl rfl (fun _ => (i_nil (r_cond_t rfl (rS (kM rfl rfl (kM rfl rfl (kM rfl rfl (i_nil (r_ret (then_r ?_)))))))))) (fun h => absurd h (by decide)))))))
  first
   | exact end2A rfl rfl (List.nil_sublist _) ⟨_, by rw [if_pos (by assumption)], rfl⟩
   | exact end2A rfl rfl (List.nil_sublist _) ⟨_, by rw [if_neg (by assumption)], rfl⟩

end
end Ev
end Go.Proofs.YtfhfjcfhanmbiaaGreat

/- Contracts: spaces. -/
namespace Go.Proofs.YtfhfjcfhanmbiaaGreat
open Go Go.RowKit
namespace Ev
theorem plc_last {m hi : Int} {l : List Int} (h : Plc m hi l) : ∀ (d k : Nat), k + d + 1 = l.length → l.getD k 0 ≤ l.getD (l.length - 1) 0
  | 0, k, hk => by rw [show l.length - 1 = k by omega]; exact Int.le_refl _
  | d + 1, k, hk => by
    have h1 := h.rise k (by omega)
    have h2 := plc_last h d (k + 1) (by omega)
    omega
theorem plan_last {l1 l2 : List Int} (h1 : plcB 9 100000 l1 = true) (h2 : plcB 9 100000 l2 = true) (h3 : (l2.length : Int) ≤ 7) (h4 : l2.getD (l2.length - 1) 0 ≤ 15000) : planB l1 l2 = true := by
  have hp := plc_of (by decide) h2
  refine plan_yes h1 h2 h3 ?_
  unfold inB
  rw [List.all_eq_true]
  intro x hx
  obtain ⟨k, hk, rfl⟩ := List.getElem_of_mem hx
  have q := hp.lo k
  have q2 := plc_last hp (l2.length - 1 - k) k (by omega)
  have q3 : l2.getD k 0 ≤ 15000 := Int.le_trans q2 h4
  have e : l2.getD k 0 = l2[k] := by rw [List.getD_eq_getElem?_getD, List.getElem?_eq_getElem hk]; rfl
  rw [e] at q q3
  simpa using ⟨q.1, q3⟩
theorem plan_last_no {l1 l2 : List Int} (h4 : ¬ l2.getD (l2.length - 1) 0 ≤ 15000) : planB l1 l2 = false := by
  cases hb : planB l1 l2 with
  | false => rfl
  | true => exact absurd ((plan_q2 hb).lo _).2 h4
theorem plan_not1 {l1 l2 : List Int} (h : ¬ plcB 9 100000 l1 = true) : planB l1 l2 = false := plan_no1 (by simpa using h)
theorem plan_not2 {l1 l2 : List Int} (h : ¬ plcB 9 100000 l2 = true) : planB l1 l2 = false := plan_no2 (by simpa using h)
theorem plc_take {l : List Int} {k : Nat} (h : Plc 9 100000 l) (h1 : 2 ≤ k) (h2 : k ≤ l.length) : Plc 9 100000 (l.take k) := by
  have hl : (l.take k).length = k := by rw [List.length_take]; omega
  have hg : ∀ j, j < k → (l.take k).getD j 0 = l.getD j 0 := fun j hj => by
    rw [List.getD_eq_getElem?_getD, List.getD_eq_getElem?_getD, List.getElem?_take, if_pos hj]
  refine ⟨by omega, by have := h.hm; omega, fun j => ?_, fun j hj => ?_⟩
  · by_cases hj : j < k
    · rw [hg j hj]; exact h.lo j
    · rw [List.getD_eq_getElem?_getD, List.getElem?_eq_none (by omega)]; exact ⟨Int.le_refl _, by decide⟩
  · rw [hg j (by omega), hg (j + 1) (by omega)]; exact h.rise j (by omega)
theorem plcB_of {l : List Int} (h : Plc 9 100000 l) : plcB 9 100000 l = true := by
  refine plc_yes ⟨by have := h.h2; omega, h.hm⟩ ?_ ?_
  · unfold inB
    rw [List.all_eq_true]
    intro x hx
    obtain ⟨k, hk, rfl⟩ := List.getElem_of_mem hx
    have q := h.lo k
    rw [List.getD_eq_getElem?_getD, List.getElem?_eq_getElem hk] at q
    simpa using q
  · have key : ∀ (d k : Nat), l.length ≤ k + d → risB (l.drop k) = true := by
      intro d
      induction d with
      | zero => intro k hk; rw [List.drop_eq_nil_of_le (by omega)]; rfl
      | succ d ih =>
        intro k hk
        by_cases hk' : k + 1 < l.length
        · rw [ris_step hk', decide_eq_true (h.rise k hk'), ih (k + 1) (by omega)]; rfl
        · by_cases hk2 : k < l.length
          · rw [List.drop_eq_getElem_cons hk2, List.drop_eq_nil_of_le (by omega)]; rfl
          · rw [List.drop_eq_nil_of_le (by omega)]; rfl
    exact key l.length 0 (by omega)

section
variable {X : FuncId → List Value → St → (Value → St → Bool) → Bool}
theorem CheckSpace_s (n : Nat) (d r al up : Int) (a1 a2 : Option Addr) (c1 c2 : Nat) (l1 l2 : List Int) (s : St) (hs : Wf s) (hn : 1688849860263936 ≤ n) (hl1 : IntsE s a1 l1) (hl2 : IntsE s a2 l2) : Spec Tryz.prog (tabK tabw) X (n + 1700) 19 [.agg ⟨[.int .i64 d, .int .i64 r, .slice a1 l1.length c1, .slice a2 l2.length c2, .int .i64 al, .int .i64 up]⟩] s (fun v A => v = .int .i64 (if (1 ≤ d ∧ d ≤ 99999) ∧ (1 ≤ r ∧ r ≤ 99999) ∧ (0 ≤ al ∧ al ≤ 100000) ∧ (0 ≤ up ∧ up ≤ 100000) ∧ planB l1 l2 = true then 0 else 30) ∧ A = []) := by
 refine enter bw19_at rfl hs ?_
 unfold bw19
 have hlen1 := hl1.len
 have hlen2 := hl2.len
 refine rS (kO rfl (a_box rfl rfl rfl (fun b1 => (kM rfl rfl (i_nil (rS (kO rfl (a_fa rfl (kO rfl (a_ld rfl .here rfl (kO rfl (a_fa rfl (kO rfl (a_ld rfl .here rfl (kO rfl (a_call rfl rfl (fun s1 h1 => Grid_s _ _ _ _ _ _ _ s1 h1.wf (by omega) (hl1.ext hs h1.2.1) (hl2.ext hs h1.2.1)) (fun v1 A1 q1 => ?_)))))))))))))))))
 obtain ⟨x1, rfl, rfl⟩ := q1
 by_cases hpl : planB l1 l2 = true
 ·rw [if_pos hpl]
  refine kM rfl rfl (kO rfl (a_ext rfl rfl (kO rfl (a_ext rfl rfl (kM rfl rfl (kM rfl rfl (i_nil (rS (kM rfl rfl (kO rfl (a_eql rfl rfl (fun _ => (kM rfl rfl (kG rfl rfl (a_fa rfl (kG rfl rfl (a_ld rfl .here rfl (kG rfl rfl (a_callB rfl rfl (fun s1 h1 => isSource_s _ _ s1 h1.wf) (fun h3 => ?_) (fun h3 => ?_))))))))) (fun h => absurd h (by decide)))))))))))))
  ·refine kO rfl (a_pick_t rfl rfl rfl (kM rfl rfl (kG rfl rfl (a_fa rfl (kG rfl rfl (a_ld rfl .here rfl (kG rfl rfl (a_callB rfl rfl (fun s1 h1 => isSource_s _ _ s1 h1.wf) (fun h4 => ?_) (fun h4 => ?_)))))))))
   ·refine kO rfl (a_pick_t rfl rfl rfl (kM rfl rfl (kG rfl rfl (a_fa rfl (kG rfl rfl (a_fa rfl (kG rfl rfl (a_ld rfl .here rfl (kG rfl rfl (a_callB rfl rfl (fun s1 h1 => inside_s _ _ _ _ s1 h1.wf) (fun h5 => ?_) (fun h5 => ?_)))))))))))
    ·refine kO rfl (a_pick_t rfl rfl rfl (kM rfl rfl (kG rfl rfl (a_fa rfl (kG rfl rfl (a_fa rfl (kG rfl rfl (a_ld rfl .here rfl (kG rfl rfl (a_callB rfl rfl (fun s1 h1 => inside_s _ _ _ _ s1 h1.wf) (fun h6 => ?_) (fun h6 => ?_)))))))))))
     ·refine kO rfl (a_pick_t rfl rfl rfl (kM rfl rfl (i_nil (rQ (rS (kM rfl rfl (kO rfl (a_not rfl (i_nil (r_cond_f rfl (r_skip (then_n (rS (kM rfl rfl (i_nil (r_ret (end1 rfl ⟨congrArg (Value.int .i64) ?_, rfl⟩)))))))))))))))))
      first
       | exact (if_pos ⟨by omega, by omega, by omega, by omega, by first | assumption | exact plan_last (by assumption) (by assumption) (by omega) (by omega)⟩).symm
       | exact (if_neg (fun h => by
         obtain ⟨q1, q2, q3, q4, q5⟩ := h
         first
          | omega
          | contradiction
          | (rw [plan_not1 (by assumption)] at q5; cases q5)
          | (rw [plan_not2 (by assumption)] at q5; cases q5)
          | (rw [plan_no3 (by omega)] at q5; cases q5)
          | (rw [plan_last_no (by omega)] at q5; cases q5))).symm
     ·refine kO rfl (a_pick_t rfl rfl rfl (kM rfl rfl (i_nil (rQ (rS (kM rfl rfl (kO rfl (a_not rfl (i_nil (r_cond_t rfl (rS (kM rfl rfl (i_nil (r_ret (then_r (end1 rfl ⟨congrArg (Value.int .i64) ?_, rfl⟩))))))))))))))))
      first
       | exact (if_pos ⟨by omega, by omega, by omega, by omega, by first | assumption | exact plan_last (by assumption) (by assumption) (by omega) (by omega)⟩).symm
       | exact (if_neg (fun h => by
         obtain ⟨q1, q2, q3, q4, q5⟩ := h
         first
          | omega
          | contradiction
          | (rw [plan_not1 (by assumption)] at q5; cases q5)
          | (rw [plan_not2 (by assumption)] at q5; cases q5)
          | (rw [plan_no3 (by omega)] at q5; cases q5)
          | (rw [plan_last_no (by omega)] at q5; cases q5))).symm
    ·refine kO rfl (a_pick_t rfl rfl rfl (kM rfl rfl (i_no rfl rfl (i_no rfl rfl (i_no rfl rfl (i_no rfl rfl (kO rfl (a_pick_f rfl rfl rfl (kM rfl rfl (i_nil (rQ (rS (kM rfl rfl (kO rfl (a_not rfl (i_nil (r_cond_t rfl (rS (kM rfl rfl (i_nil (r_ret (then_r (end1 rfl ⟨congrArg (Value.int .i64) ?_, rfl⟩)))))))))))))))))))))))
     first
      | exact (if_pos ⟨by omega, by omega, by omega, by omega, by first | assumption | exact plan_last (by assumption) (by assumption) (by omega) (by omega)⟩).symm
      | exact (if_neg (fun h => by
        obtain ⟨q1, q2, q3, q4, q5⟩ := h
        first
         | omega
         | contradiction
         | (rw [plan_not1 (by assumption)] at q5; cases q5)
         | (rw [plan_not2 (by assumption)] at q5; cases q5)
         | (rw [plan_no3 (by omega)] at q5; cases q5)
         | (rw [plan_last_no (by omega)] at q5; cases q5))).symm
   ·refine kO rfl (a_pick_t rfl rfl rfl (kM rfl rfl (i_no rfl rfl (i_no rfl rfl (i_no rfl rfl (i_no rfl rfl (kO rfl (a_pick_f rfl rfl rfl (kM rfl rfl (i_no rfl rfl (i_no rfl rfl (i_no rfl rfl (i_no rfl rfl (kO rfl (a_pick_f rfl rfl rfl (kM rfl rfl (i_nil (rQ (rS (kM rfl rfl (kO rfl (a_not rfl (i_nil (r_cond_t rfl (rS (kM rfl rfl (i_nil ?_)))))))))))))))))))))))))))
    refine r_ret (then_r (end1 rfl ⟨congrArg (Value.int .i64) ?_, rfl⟩))
    first
     | exact (if_pos ⟨by omega, by omega, by omega, by omega, by first | assumption | exact plan_last (by assumption) (by assumption) (by omega) (by omega)⟩).symm
     | exact (if_neg (fun h => by
       obtain ⟨q1, q2, q3, q4, q5⟩ := h
       first
        | omega
        | contradiction
        | (rw [plan_not1 (by assumption)] at q5; cases q5)
        | (rw [plan_not2 (by assumption)] at q5; cases q5)
        | (rw [plan_no3 (by omega)] at q5; cases q5)
        | (rw [plan_last_no (by omega)] at q5; cases q5))).symm
  ·refine kO rfl (a_pick_t rfl rfl rfl (kM rfl rfl (i_no rfl rfl (i_no rfl rfl (i_no rfl rfl (kO rfl (a_pick_f rfl rfl rfl (kM rfl rfl (i_no rfl rfl (i_no rfl rfl (i_no rfl rfl (i_no rfl rfl (kO rfl (a_pick_f rfl rfl rfl (kM rfl rfl (i_no rfl rfl (i_no rfl rfl (i_no rfl rfl (i_no rfl rfl (kO rfl (a_pick_f rfl rfl rfl (kM rfl rfl (i_nil (rQ (rS (kM rfl rfl (kO rfl (a_not rfl ?_))))))))))))))))))))))))))))
   refine i_nil (r_cond_t rfl (rS (kM rfl rfl (i_nil (r_ret (then_r (end1 rfl ⟨congrArg (Value.int .i64) ?_, rfl⟩)))))))
   first
    | exact (if_pos ⟨by omega, by omega, by omega, by omega, by first | assumption | exact plan_last (by assumption) (by assumption) (by omega) (by omega)⟩).symm
    | exact (if_neg (fun h => by
      obtain ⟨q1, q2, q3, q4, q5⟩ := h
      first
       | omega
       | contradiction
       | (rw [plan_not1 (by assumption)] at q5; cases q5)
       | (rw [plan_not2 (by assumption)] at q5; cases q5)
       | (rw [plan_no3 (by omega)] at q5; cases q5)
       | (rw [plan_last_no (by omega)] at q5; cases q5))).symm
 ·rw [if_neg hpl]
  refine kM rfl rfl (kO rfl (a_ext rfl rfl (kO rfl (a_ext rfl rfl (kM rfl rfl (kM rfl rfl (i_nil (rS (kM rfl rfl (kO rfl (a_eql rfl rfl (fun h => absurd h (by decide)) (fun _ => (kM rfl rfl (i_no rfl rfl (i_no rfl rfl (i_no rfl rfl (kO rfl (a_pick_f rfl rfl rfl (kM rfl rfl (i_no rfl rfl (i_no rfl rfl (i_no rfl rfl (kO rfl (a_pick_f rfl rfl rfl (kM rfl rfl (i_no rfl rfl (i_no rfl rfl (i_no rfl rfl (i_no rfl rfl ?_)))))))))))))))))))))))))))))
  refine kO rfl (a_pick_f rfl rfl rfl (kM rfl rfl (i_no rfl rfl (i_no rfl rfl (i_no rfl rfl (i_no rfl rfl (kO rfl (a_pick_f rfl rfl rfl (kM rfl rfl (i_nil (rQ (rS (kM rfl rfl (kO rfl (a_not rfl (i_nil (r_cond_t rfl (rS (kM rfl rfl (i_nil (r_ret (then_r (end1 rfl ⟨congrArg (Value.int .i64) ?_, rfl⟩)))))))))))))))))))))))
  first
   | exact (if_pos ⟨by omega, by omega, by omega, by omega, by first | assumption | exact plan_last (by assumption) (by assumption) (by omega) (by omega)⟩).symm
   | exact (if_neg (fun h => by
     obtain ⟨q1, q2, q3, q4, q5⟩ := h
     first
      | omega
      | contradiction
      | (rw [plan_not1 (by assumption)] at q5; cases q5)
      | (rw [plan_not2 (by assumption)] at q5; cases q5)
      | (rw [plan_no3 (by omega)] at q5; cases q5)
      | (rw [plan_last_no (by omega)] at q5; cases q5))).symm

theorem rCheckSpace_s (n : Nat) (d r al up : Int) (a1 a2 : Option Addr) (c1 c2 : Nat) (l1 l2 : List Int) (s : St) (hs : Wf s) (hn : 1688849860263936 ≤ n) (hl1 : IntsE s a1 l1) (hl2 : IntsE s a2 l2) : Spec Tryz.prog (tabK tabw) X (n + 1700) 20 [.agg ⟨[.int .i64 d, .int .i64 r, .slice a1 l1.length c1, .slice a2 l2.length c2, .int .i64 al, .int .i64 up]⟩] s (fun v A => v = .int .i64 (if (1 ≤ d ∧ d ≤ 99999) ∧ (1 ≤ r ∧ r ≤ 99999) ∧ (0 ≤ al ∧ al ≤ 100000) ∧ (0 ≤ up ∧ up ≤ 100000) ∧ planB l1 l2 = true then 0 else 30) ∧ A = []) := by
 refine enter bw20_at rfl hs ?_
 unfold bw20
 have hlen1 := hl1.len
 have hlen2 := hl2.len
 refine rS (kO rfl (a_box rfl rfl rfl (fun b1 => (kM rfl rfl (i_nil (rQ (rS (kO rfl (a_fa rfl (kO rfl (a_ld rfl .here rfl (kO rfl (a_callB rfl rfl (fun s1 h1 => In_s _ _ _ _ s1 h1.wf) (fun h2 => ?_) (fun h2 => ?_))))))))))))))
 ·refine kO rfl (a_not rfl (kM rfl rfl (kG rfl rfl (a_fa rfl (kG rfl rfl (a_ld rfl .here rfl (kG rfl rfl (a_callB rfl rfl (fun s1 h1 => In_s _ _ _ _ s1 h1.wf) (fun h3 => ?_) (fun h3 => ?_)))))))))
  ·refine kG rfl rfl (a_not rfl (kO rfl (a_pick_f rfl rfl rfl (kM rfl rfl (kG rfl rfl (a_fa rfl (kG rfl rfl (a_fa rfl (kG rfl rfl (a_ld rfl .here rfl (kG rfl rfl (a_callB rfl rfl (fun s1 h1 => In_s _ _ _ _ s1 h1.wf) (fun h4 => ?_) (fun h4 => ?_)))))))))))))
   ·refine kG rfl rfl (a_not rfl (kO rfl (a_pick_f rfl rfl rfl (kM rfl rfl (kG rfl rfl (a_fa rfl (kG rfl rfl (a_fa rfl (kG rfl rfl (a_ld rfl .here rfl (kG rfl rfl (a_callB rfl rfl (fun s1 h1 => In_s _ _ _ _ s1 h1.wf) (fun h5 => ?_) (fun h5 => ?_)))))))))))))
    ·refine kG rfl rfl (a_not rfl (kO rfl (a_pick_f rfl rfl rfl (i_nil (r_cond_f rfl (r_skip (then_n (rQ (rS (kO rfl (a_fa rfl (kO rfl (a_ld rfl .here rfl (kO rfl (a_callE rfl rfl (fun s1 h1 => rCheckPlaces_s _ _ _ _ s1 h1.wf (by omega) (hl1.ext hs h1.2.1)) (fun h6 => ?_) (fun h6 => ?_))))))))))))))))
     ·refine kO rfl (a_neq rfl rfl (fun h => absurd h (by decide)) (fun _ => (kM rfl rfl (kG rfl rfl (a_fa rfl (kG rfl rfl (a_ld rfl .here rfl (kG rfl rfl (a_callE rfl rfl (fun s1 h1 => rCheckPlaces_s _ _ _ _ s1 h1.wf (by omega) (hl2.ext hs h1.2.1)) (fun h8 => ?_) (fun h8 => ?_))))))))))
      ·refine kG rfl rfl (a_neq rfl rfl (fun h => absurd h (by decide)) (fun _ => (kO rfl (a_pick_f rfl rfl rfl (kM rfl rfl (kG rfl rfl (a_fa rfl (kG rfl rfl (a_ld rfl .here rfl (kG rfl rfl (a_lenx rfl hl2.spot (kG rfl rfl (a_gtr rfl rfl (fun h10 => ?_) (fun h10 => ?_))))))))))))))
       ·refine kO rfl (a_pick_f rfl rfl rfl (kM rfl rfl (i_no rfl rfl (i_no rfl rfl (i_no rfl rfl (i_no rfl rfl (i_no rfl rfl (i_no rfl rfl (i_no rfl rfl (i_no rfl rfl (i_no rfl rfl (kO rfl (a_pick_t rfl rfl rfl (i_nil (r_cond_t rfl (rS (kM rfl rfl (i_nil (r_ret (then_r (end1 rfl ⟨congrArg (Value.int .i64) ?_, rfl⟩)))))))))))))))))))))
        first
         | exact (if_pos ⟨by omega, by omega, by omega, by omega, by first | assumption | exact plan_last (by assumption) (by assumption) (by omega) (by omega)⟩).symm
         | exact (if_neg (fun h => by
           obtain ⟨q1, q2, q3, q4, q5⟩ := h
           first
            | omega
            | contradiction
            | (rw [plan_not1 (by assumption)] at q5; cases q5)
            | (rw [plan_not2 (by assumption)] at q5; cases q5)
            | (rw [plan_no3 (by omega)] at q5; cases q5)
            | (rw [plan_last_no (by omega)] at q5; cases q5))).symm
       ·refine kO rfl (a_pick_f rfl rfl rfl (kM rfl rfl (kG rfl rfl (a_fa rfl (kG rfl rfl (a_ld rfl .here rfl (kG rfl rfl (a_fa rfl (kG rfl rfl (a_ld rfl .here rfl (kG rfl rfl (a_lenx rfl hl2.spot ?_))))))))))))
        have hq2 := (plc_of (by decide) (by assumption : plcB 9 100000 l2 = true)).h2
        refine kG rfl rfl (a_sub rfl rfl (by omega) (kG rfl rfl (a_iaI (j := l2.length - 1) hl2 rfl rfl (by omega) (by simp) (by omega) (fun _ _ a99 => (kG rfl rfl (a_ldr rfl (hl2.at a99 (by omega)) (kG rfl rfl (a_gtr rfl rfl (fun h12 => ?_) (fun h12 => ?_)))))))))
        ·refine kO rfl (a_pick_f rfl rfl rfl (i_nil (r_cond_t rfl (rS (kM rfl rfl (i_nil (r_ret (then_r (end1 rfl ⟨congrArg (Value.int .i64) ?_, rfl⟩)))))))))
         first
          | exact (if_pos ⟨by omega, by omega, by omega, by omega, by first | assumption | exact plan_last (by assumption) (by assumption) (by omega) (by omega)⟩).symm
          | exact (if_neg (fun h => by
            obtain ⟨q1, q2, q3, q4, q5⟩ := h
            first
             | omega
             | contradiction
             | (rw [plan_not1 (by assumption)] at q5; cases q5)
             | (rw [plan_not2 (by assumption)] at q5; cases q5)
             | (rw [plan_no3 (by omega)] at q5; cases q5)
             | (rw [plan_last_no (by omega)] at q5; cases q5))).symm
        ·refine kO rfl (a_pick_f rfl rfl rfl (i_nil (r_cond_f rfl (r_skip (then_n (rS (kM rfl rfl (i_nil (r_ret (end1 rfl ⟨congrArg (Value.int .i64) ?_, rfl⟩))))))))))
         first
          | exact (if_pos ⟨by omega, by omega, by omega, by omega, by first | assumption | exact plan_last (by assumption) (by assumption) (by omega) (by omega)⟩).symm
          | exact (if_neg (fun h => by
            obtain ⟨q1, q2, q3, q4, q5⟩ := h
            first
             | omega
             | contradiction
             | (rw [plan_not1 (by assumption)] at q5; cases q5)
             | (rw [plan_not2 (by assumption)] at q5; cases q5)
             | (rw [plan_no3 (by omega)] at q5; cases q5)
             | (rw [plan_last_no (by omega)] at q5; cases q5))).symm
      ·refine kG rfl rfl (a_neq rfl rfl (fun _ => (kO rfl (a_pick_f rfl rfl rfl (kM rfl rfl (i_no rfl rfl (i_no rfl rfl (i_no rfl rfl (i_no rfl rfl (kO rfl (a_pick_t rfl rfl rfl (kM rfl rfl (i_no rfl rfl (i_no rfl rfl (i_no rfl rfl (i_no rfl rfl (i_no rfl rfl (i_no rfl rfl (i_no rfl rfl (i_no rfl rfl (i_no rfl rfl (kO rfl (a_pick_t rfl rfl rfl (i_nil (r_cond_t rfl (rS (kM rfl rfl (i_nil ?_))))))))))))))))))))))))))) (fun h => absurd h (by decide)))
       refine r_ret (then_r (end1 rfl ⟨congrArg (Value.int .i64) ?_, rfl⟩))
       first
        | exact (if_pos ⟨by omega, by omega, by omega, by omega, by first | assumption | exact plan_last (by assumption) (by assumption) (by omega) (by omega)⟩).symm
        | exact (if_neg (fun h => by
          obtain ⟨q1, q2, q3, q4, q5⟩ := h
          first
           | omega
           | contradiction
           | (rw [plan_not1 (by assumption)] at q5; cases q5)
           | (rw [plan_not2 (by assumption)] at q5; cases q5)
           | (rw [plan_no3 (by omega)] at q5; cases q5)
           | (rw [plan_last_no (by omega)] at q5; cases q5))).symm
     ·refine kO rfl (a_neq rfl rfl (fun _ => (kM rfl rfl (i_no rfl rfl (i_no rfl rfl (i_no rfl rfl (i_no rfl rfl (kO rfl (a_pick_t rfl rfl rfl (kM rfl rfl (i_no rfl rfl (i_no rfl rfl (i_no rfl rfl (i_no rfl rfl (kO rfl (a_pick_t rfl rfl rfl (kM rfl rfl (i_no rfl rfl (i_no rfl rfl (i_no rfl rfl (i_no rfl rfl (i_no rfl rfl (i_no rfl rfl (i_no rfl rfl (i_no rfl rfl (i_no rfl rfl (kO rfl (a_pick_t rfl rfl rfl ?_))))))))))))))))))))))))))) (fun h => absurd h (by decide)))
      refine i_nil (r_cond_t rfl (rS (kM rfl rfl (i_nil (r_ret (then_r (end1 rfl ⟨congrArg (Value.int .i64) ?_, rfl⟩)))))))
      first
       | exact (if_pos ⟨by omega, by omega, by omega, by omega, by first | assumption | exact plan_last (by assumption) (by assumption) (by omega) (by omega)⟩).symm
       | exact (if_neg (fun h => by
         obtain ⟨q1, q2, q3, q4, q5⟩ := h
         first
          | omega
          | contradiction
          | (rw [plan_not1 (by assumption)] at q5; cases q5)
          | (rw [plan_not2 (by assumption)] at q5; cases q5)
          | (rw [plan_no3 (by omega)] at q5; cases q5)
          | (rw [plan_last_no (by omega)] at q5; cases q5))).symm
    ·refine kG rfl rfl (a_not rfl (kO rfl (a_pick_f rfl rfl rfl (i_nil (r_cond_t rfl (rS (kM rfl rfl (i_nil (r_ret (then_r (end1 rfl ⟨congrArg (Value.int .i64) ?_, rfl⟩)))))))))))
     first
      | exact (if_pos ⟨by omega, by omega, by omega, by omega, by first | assumption | exact plan_last (by assumption) (by assumption) (by omega) (by omega)⟩).symm
      | exact (if_neg (fun h => by
        obtain ⟨q1, q2, q3, q4, q5⟩ := h
        first
         | omega
         | contradiction
         | (rw [plan_not1 (by assumption)] at q5; cases q5)
         | (rw [plan_not2 (by assumption)] at q5; cases q5)
         | (rw [plan_no3 (by omega)] at q5; cases q5)
         | (rw [plan_last_no (by omega)] at q5; cases q5))).symm
   ·refine kG rfl rfl (a_not rfl (kO rfl (a_pick_f rfl rfl rfl (kM rfl rfl (i_no rfl rfl (i_no rfl rfl (i_no rfl rfl (i_no rfl rfl (i_no rfl rfl (kO rfl (a_pick_t rfl rfl rfl (i_nil (r_cond_t rfl (rS (kM rfl rfl (i_nil (r_ret (then_r (end1 rfl ⟨congrArg (Value.int .i64) ?_, rfl⟩)))))))))))))))))))
    first
     | exact (if_pos ⟨by omega, by omega, by omega, by omega, by first | assumption | exact plan_last (by assumption) (by assumption) (by omega) (by omega)⟩).symm
     | exact (if_neg (fun h => by
       obtain ⟨q1, q2, q3, q4, q5⟩ := h
       first
        | omega
        | contradiction
        | (rw [plan_not1 (by assumption)] at q5; cases q5)
        | (rw [plan_not2 (by assumption)] at q5; cases q5)
        | (rw [plan_no3 (by omega)] at q5; cases q5)
        | (rw [plan_last_no (by omega)] at q5; cases q5))).symm
  ·refine kG rfl rfl (a_not rfl (kO rfl (a_pick_f rfl rfl rfl (kM rfl rfl (i_no rfl rfl (i_no rfl rfl (i_no rfl rfl (i_no rfl rfl (i_no rfl rfl (kO rfl (a_pick_t rfl rfl rfl (kM rfl rfl (i_no rfl rfl (i_no rfl rfl (i_no rfl rfl (i_no rfl rfl (i_no rfl rfl (kO rfl (a_pick_t rfl rfl rfl (i_nil (r_cond_t rfl (rS (kM rfl rfl (i_nil (r_ret (then_r (end1 rfl ⟨congrArg (Value.int .i64) ?_, rfl⟩)))))))))))))))))))))))))))
   first
    | exact (if_pos ⟨by omega, by omega, by omega, by omega, by first | assumption | exact plan_last (by assumption) (by assumption) (by omega) (by omega)⟩).symm
    | exact (if_neg (fun h => by
      obtain ⟨q1, q2, q3, q4, q5⟩ := h
      first
       | omega
       | contradiction
       | (rw [plan_not1 (by assumption)] at q5; cases q5)
       | (rw [plan_not2 (by assumption)] at q5; cases q5)
       | (rw [plan_no3 (by omega)] at q5; cases q5)
       | (rw [plan_last_no (by omega)] at q5; cases q5))).symm
 ·refine kO rfl (a_not rfl (kM rfl rfl (i_no rfl rfl (i_no rfl rfl (i_no rfl rfl (i_no rfl rfl (kO rfl (a_pick_t rfl rfl rfl (kM rfl rfl (i_no rfl rfl (i_no rfl rfl (i_no rfl rfl (i_no rfl rfl (i_no rfl rfl (kO rfl (a_pick_t rfl rfl rfl (kM rfl rfl (i_no rfl rfl (i_no rfl rfl (i_no rfl rfl (i_no rfl rfl (i_no rfl rfl (kO rfl (a_pick_t rfl rfl rfl (i_nil (r_cond_t rfl (rS ?_)))))))))))))))))))))))))))
  refine kM rfl rfl (i_nil (r_ret (then_r (end1 rfl ⟨congrArg (Value.int .i64) ?_, rfl⟩))))
  first
   | exact (if_pos ⟨by omega, by omega, by omega, by omega, by first | assumption | exact plan_last (by assumption) (by assumption) (by omega) (by omega)⟩).symm
   | exact (if_neg (fun h => by
     obtain ⟨q1, q2, q3, q4, q5⟩ := h
     first
      | omega
      | contradiction
      | (rw [plan_not1 (by assumption)] at q5; cases q5)
      | (rw [plan_not2 (by assumption)] at q5; cases q5)
      | (rw [plan_no3 (by omega)] at q5; cases q5)
      | (rw [plan_last_no (by omega)] at q5; cases q5))).symm

theorem has_s (n : Nat) (d r al up : Int) (a1 a2 : Option Addr) (c1 c2 : Nat) (l1 l2 : List Int) (x y : Int) (s : St) (hs : Wf s) (hn : 281474976710656 ≤ n) (hl1 : IntsE s a1 l1) (hl2 : IntsE s a2 l2) : Spec Tryz.prog (tabK tabw) X (n + 60) 41 [.agg ⟨[.int .i64 d, .int .i64 r, .slice a1 l1.length c1, .slice a2 l2.length c2, .int .i64 al, .int .i64 up]⟩, .int .i64 x, .int .i64 y] s (fun v A => v = .bool (decide ((0 ≤ x ∧ x ≤ (l1.length : Int) - 1) ∧ (0 ≤ y ∧ y ≤ (l2.length : Int) - 1))) ∧ A = []) := by
 refine enter bw41_at rfl hs ?_
 unfold bw41
 have hlen1 := hl1.len
 have hlen2 := hl2.len
 refine rS (kO rfl (a_box rfl rfl rfl (fun b1 => (kM rfl rfl (i_nil (rS (kM rfl rfl (kO rfl (a_fa rfl (kO rfl (a_ld rfl .here rfl (kO rfl (a_lenx rfl hl1.spot (kO rfl (a_sub rfl rfl (by omega) (kO rfl (a_callB rfl rfl (fun s1 h1 => inside_s _ _ _ _ s1 h1.wf) (fun h2 => ?_) (fun h2 => ?_))))))))))))))))))
 ·refine kM rfl rfl (kG rfl rfl (a_mov rfl (kG rfl rfl (a_fa rfl (kG rfl rfl (a_ld rfl .here rfl (kG rfl rfl (a_lenx rfl hl2.spot (kG rfl rfl (a_sub rfl rfl (by omega) (kG rfl rfl (a_callB rfl rfl (fun s1 h1 => inside_s _ _ _ _ s1 h1.wf) (fun h3 => ?_) (fun h3 => ?_)))))))))))))
  ·refine kO rfl (a_pick_t rfl rfl rfl (kM rfl rfl (i_nil (r_ret (end1 rfl ⟨congrArg Value.bool ?_, rfl⟩)))))
   first | exact (decide_eq_true ⟨by omega, by omega⟩).symm | exact (decide_eq_false (fun h => by omega)).symm
  ·refine kO rfl (a_pick_t rfl rfl rfl (kM rfl rfl (i_nil (r_ret (end1 rfl ⟨congrArg Value.bool ?_, rfl⟩)))))
   first | exact (decide_eq_true ⟨by omega, by omega⟩).symm | exact (decide_eq_false (fun h => by omega)).symm
 ·refine kM rfl rfl (i_no rfl rfl (i_no rfl rfl (i_no rfl rfl (i_no rfl rfl (i_no rfl rfl (i_no rfl rfl (kO rfl (a_pick_f rfl rfl rfl (kM rfl rfl (i_nil (r_ret (end1 rfl ⟨congrArg Value.bool ?_, rfl⟩))))))))))))
  first | exact (decide_eq_true ⟨by omega, by omega⟩).symm | exact (decide_eq_false (fun h => by omega)).symm

end
end Ev
end Go.Proofs.YtfhfjcfhanmbiaaGreat
