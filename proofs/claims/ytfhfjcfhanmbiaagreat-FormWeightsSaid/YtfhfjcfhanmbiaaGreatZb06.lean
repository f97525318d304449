import Derived.Test.YtfhfjcfhanmbiaaGreatZb05
set_option linter.unusedVariables false
set_option linter.unusedSimpArgs false
/- Contracts: groups. -/
namespace Go.Proofs.YtfhfjcfhanmbiaaGreat
open Go Go.RowKit
namespace Ev
def many (l : List Int) (i : Nat) : Nat := if i + 2 < l.length ∧ rat (l.getD (i + 1) 0 - l.getD i 0) (l.getD (i + 2) 0 - l.getD (i + 1) 0) ≠ 0 then 2 else 1
theorem many_two {l : List Int} {i : Nat} (h : i + 2 < l.length) (h2 : ¬ rat (l.getD (i + 1) 0 - l.getD i 0) (l.getD (i + 2) 0 - l.getD (i + 1) 0) = 0) : many l i = 2 := if_pos ⟨h, h2⟩
theorem many_one {l : List Int} {i : Nat} (h : ¬ i + 2 < l.length) : many l i = 1 := if_neg (fun q => h q.1)
theorem many_one2 {l : List Int} {i : Nat} (h : rat (l.getD (i + 1) 0 - l.getD i 0) (l.getD (i + 2) 0 - l.getD (i + 1) 0) = 0) : many l i = 1 := if_neg (fun q => q.2 h)
theorem many_three {l : List Int} {i : Nat} (h : i + 2 < l.length) (h2 : 0 < rat (l.getD (i + 1) 0 - l.getD i 0) (l.getD (i + 2) 0 - l.getD (i + 1) 0)) : many l i = 2 := many_two h (by omega)
theorem many_one3 {l : List Int} {i : Nat} (h : ¬ 0 < rat (l.getD (i + 1) 0 - l.getD i 0) (l.getD (i + 2) 0 - l.getD (i + 1) 0)) : many l i = 1 := many_one2 (by have := rat_cases (l.getD (i + 1) 0 - l.getD i 0) (l.getD (i + 2) 0 - l.getD (i + 1) 0); omega)
theorem many_cases (l : List Int) (i : Nat) : many l i = 1 ∨ many l i = 2 := by unfold many; split <;> simp
def grs (l : List Int) (i : Nat) : List (Nat × Nat) := if h : i + 1 < l.length then (i, many l i) :: grs l (i + many l i) else []
termination_by l.length - i
decreasing_by have := many_cases l i; omega
theorem gr_eq {l : List Int} {i : Nat} (hi : i + 1 < l.length) : grs l i = (i, many l i) :: grs l (i + many l i) := by rw [grs, dif_pos hi]
theorem gr_nil {l : List Int} {i : Nat} (hi : l.length ≤ i + 1) : grs l i = [] := by rw [grs, dif_neg (by omega)]
theorem gr_step {l : List Int} {G : List (Nat × Nat)} {i m : Nat} (h : grs l 0 = G ++ grs l i) (hi : i + 1 < l.length) (hm : many l i = m) : grs l 0 = (G ++ [(i, m)]) ++ grs l (i + m) := by
 rw [h, gr_eq hi, hm]; simp
theorem gr_end {l : List Int} {G : List (Nat × Nat)} {i : Nat} (h : grs l 0 = G ++ grs l i) (hi : l.length ≤ i + 1) : grs l 0 = G := by
 rw [h, gr_nil hi]; simp
def flat2 (G : List (Nat × Nat)) : List Value := G.flatMap fun p => [.int .i64 (p.1 : Int), .int .i64 (p.2 : Int)]
theorem flat2_len {G : List (Nat × Nat)} : (flat2 G).length = G.length * 2 := by
 induction G with
 | nil => rfl
 | cons p G ih => simp [flat2] at ih ⊢; omega
theorem flat2_app {G H : List (Nat × Nat)} : flat2 (G ++ H) = flat2 G ++ flat2 H := by simp [flat2]
theorem flat2_get {G : List (Nat × Nat)} : ∀ {k : Nat} {p : Nat × Nat}, G[k]? = some p → (flat2 G)[k * 2]? = some (.int .i64 (p.1 : Int)) ∧ (flat2 G)[k * 2 + 1]? = some (.int .i64 (p.2 : Int)) := by
 induction G with
 | nil => intro k p h; simp at h
 | cons q G ih =>
  intro k p h
  cases k with
  | zero => simp at h; subst h; exact ⟨rfl, rfl⟩
  | succ k =>
   have := ih (k := k) (p := p) (by simpa using h)
   rw [show (k + 1) * 2 = k * 2 + 2 by omega]
   exact this
theorem gr_in {l : List Int} : ∀ (f i : Nat), l.length ≤ i + f → ∀ p ∈ grs l i, p.1 + p.2 < l.length ∧ many l p.1 = p.2
 | 0, i, hf, p, hp => by rw [grs, dif_neg (by omega)] at hp; cases hp
 | f + 1, i, hf, p, hp => by
  rw [grs] at hp
  by_cases hi : i + 1 < l.length
  ·rw [dif_pos hi] at hp
   have hm := many_cases l i
   rcases List.mem_cons.1 hp with rfl | hp
   ·refine ⟨?_, rfl⟩
    show i + many l i < l.length
    unfold many
    split <;> omega
   ·exact gr_in f (i + many l i) (by omega) p hp
  ·rw [dif_neg hi] at hp; cases hp
theorem gr_len {l : List Int} : ∀ (f i : Nat), l.length ≤ i + f → (grs l i).length ≤ f
 | 0, i, hf => by rw [grs, dif_neg (by omega)]; simp
 | f + 1, i, hf => by
  rw [grs]
  by_cases hi : i + 1 < l.length
  ·rw [dif_pos hi]
   have hm := many_cases l i
   have := gr_len (l := l) f (i + many l i) (by omega)
   simp; omega
  ·rw [dif_neg hi]; simp
section
variable {X : FuncId → List Value → St → (Value → St → Bool) → Bool}
theorem groupsOf_s (n : Nat) (a : Option Addr) (cap : Nat) (l : List Int) (s : St) (hs : Wf s) (hn : 281474976710656 ≤ n) (hl : IntsE s a l) (hp : Plc 9 100000 l) : Spec Tryz.prog (tabK tabw) X (n + 300) 179 [.slice a l.length cap] s (fun v A => ∃ b, v = .slice (some ⟨b, 0, none⟩) (grs l 0).length OPEN ∧ A = [.row b 215 true (flat2 (grs l 0))]) := by
 refine enter bw179_at rfl hs ?_
 unfold bw179
 have hlen := hl.len
 have z0 := hp.lo (0)
 have z1 := hp.lo (1)
 have z2 := hp.lo (2)
 have r0 : 1 < l.length → l.getD (0) 0 < l.getD (1) 0 := fun h => hp.rise _ h
 have r1 : 2 < l.length → l.getD (1) 0 < l.getD (2) 0 := fun h => hp.rise _ h
 have hm9 := hp.hm
 have h29 := hp.h2
 refine r_seq (r_items (i_mv rfl rfl rfl (i_nil (then_n (r_seq (r_items (i_mv rfl rfl rfl (i_nil (then_n (r_seq (r_seq (r_items (i_mv rfl rfl rfl (i_nil (then_n (r_block ?_))))))))))))))))
 refine r_unroll ?_
 refine r_seq (r_seq (r_items (i_mv rfl rfl rfl ?_)))
 refine i_op (a_add rfl rfl (by decide) ?_) rfl rfl
 refine i_mv rfl rfl rfl ?_
 refine i_op (a_lenx rfl hl.spot ?_) rfl rfl
 refine i_op (a_lss rfl rfl (fun h1 => ?_) (fun h1 => ?_)) rfl rfl
 ·refine i_nil (then_n (r_cond_t rfl (r_skip (then_n (r_block (r_seq (r_items (i_mv rfl rfl rfl (i_nil (then_n (r_seq (r_seq (r_items (i_mv rfl rfl rfl ?_))))))))))))))
  refine i_op (a_add rfl rfl (by decide) ?_) rfl rfl
  refine i_mv rfl rfl rfl ?_
  refine i_op (a_lenx rfl hl.spot ?_) rfl rfl
  refine i_op (a_lss rfl rfl (fun h2 => ?_) (fun h2 => ?_)) rfl rfl
  ·refine i_mv rfl rfl rfl (i_mv rfl rfl rfl (i_mv rfl rfl rfl ?_))
   refine i_op (a_add rfl rfl (by decide) ?_) rfl rfl
   refine i_op (a_iaI (j := 1) hl rfl rfl (by omega) (by simp) (by omega) (fun _ _ a3 => ?_)) rfl rfl
   refine i_op (a_ldr rfl (hl.at a3 (by omega)) ?_) rfl rfl
   refine i_mv rfl rfl rfl (i_mv rfl rfl rfl ?_)
   refine i_op (a_iaI (j := 0) hl rfl rfl (by omega) (by simp) (by omega) (fun _ _ a4 => ?_)) rfl rfl
   refine i_op (a_ldr rfl (hl.at a4 (by omega)) ?_) rfl rfl
   refine i_op (a_sub rfl rfl (by omega) ?_) rfl rfl
   refine i_mv rfl rfl rfl (i_mv rfl rfl rfl ?_)
   refine i_op (a_add rfl rfl (by decide) ?_) rfl rfl
   refine i_op (a_iaI (j := 2) hl rfl rfl (by omega) (by simp) (by omega) (fun _ _ a5 => ?_)) rfl rfl
   refine i_op (a_ldr rfl (hl.at a5 (by omega)) ?_) rfl rfl
   refine i_mv rfl rfl rfl (i_mv rfl rfl rfl ?_)
   refine i_op (a_add rfl rfl (by decide) ?_) rfl rfl
   refine i_op (a_iaI (j := 1) hl rfl rfl (by omega) (by simp) (by omega) (fun _ _ a6 => ?_)) rfl rfl
   refine i_op (a_ldr rfl (hl.at a6 (by omega)) ?_) rfl rfl
   refine i_op (a_sub rfl rfl (by omega) ?_) rfl rfl
   refine i_op (a_callV rfl rfl (fun s1 h1 => ratio_s _ _ _ s1 h1.wf (by omega) (by omega)) ?_) rfl rfl
   refine i_op (a_neq rfl rfl (fun h7 => ?_) (fun h7 => ?_)) rfl rfl
   ·refine i_op (a_pick_t rfl rfl rfl ?_) rfl rfl
    refine i_nil (then_n (r_cond_t rfl (r_items (i_mv rfl rfl rfl (i_nil (then_n (r_seq (r_items (i_mv rfl rfl rfl (i_mv rfl rfl rfl (i_mv rfl rfl rfl ?_)))))))))))
    refine i_op (a_build rfl rfl ?_) rfl rfl
    refine i_op (a_lit rfl rfl rfl (fun b8 => ?_)) rfl rfl
    refine i_op (a_appn rfl rfl (Src.own .here rfl (by simp)) (by decide) (by omega) (by omega) (fun b9 => ?_)) rfl rfl
    refine i_mv rfl rfl rfl (i_nil (then_n (r_items (i_mv rfl rfl rfl (i_mv rfl rfl rfl ?_)))))
    refine i_op (a_add rfl rfl (by decide) ?_) rfl rfl
    refine i_mv rfl rfl rfl (i_nil (block_n (then_n ?_)))
    refine r_loop (fun j e A => ∃ (i b : Nat) (G : List (Nat × Nat)), e = [(0, .slice a l.length cap), (4, .int .i64 (i : Int)), (3, .slice (some ⟨b, 0, none⟩) G.length OPEN)] ∧ A = [.row b 215 true (flat2 G)] ∧ j = l.length - i ∧ i ≤ l.length ∧ grs l 0 = G ++ grs l i ∧ G.length ≤ i) 160 0 281474976710656 ?_ (j := _) (env2 := _) (A2 := _) ?_ ?_ ?_ ?_ ⟨2, b9, [(0, 2)], rfl, rfl, rfl, by omega, (gr_step (G := []) (i := 0) rfl (by omega) (by first | exact many_two (by omega) (by assumption) | exact many_one (by omega) | exact many_one2 (by assumption) | exact many_three (by omega) (by assumption) | exact many_one3 (by assumption))), (by simp)⟩
    rotate_left
    ·omega
    ·omega
    ·exact (Less.cons rfl (Less.cons rfl (Less.cons rfl Less.nil)))
    ·exact (.cons_cons _ (.cons _ .slnil))
    rintro n hn j _ _ ⟨i, b, G, rfl, rfl, rfl, hi, hG, hGl⟩
    have z0 := hp.lo (i)
    have z1 := hp.lo (i + 1)
    have z2 := hp.lo (i + 2)
    have r0 : i + 1 < l.length → l.getD (i) 0 < l.getD (i + 1) 0 := fun h => hp.rise _ h
    have r1 : i + 2 < l.length → l.getD (i + 1) 0 < l.getD (i + 2) 0 := fun h => hp.rise _ h
    have hm9 := hp.hm
    have h29 := hp.h2
    refine r_seq (r_seq (r_items (i_mv rfl rfl rfl ?_)))
    refine i_op (a_add rfl rfl (by omega) ?_) rfl rfl
    refine i_mv rfl rfl rfl ?_
    refine i_op (a_lenx rfl hl.spot ?_) rfl rfl
    refine i_op (a_lss rfl rfl (fun h10 => ?_) (fun h10 => ?_)) rfl rfl
    ·refine i_nil (then_n (r_cond_t rfl (r_skip (then_n (r_block (r_seq (r_items (i_mv rfl rfl rfl (i_nil (then_n (r_seq (r_seq (r_items (i_mv rfl rfl rfl ?_))))))))))))))
     refine i_op (a_add rfl rfl (by omega) ?_) rfl rfl
     refine i_mv rfl rfl rfl ?_
     refine i_op (a_lenx rfl hl.spot ?_) rfl rfl
     refine i_op (a_lss rfl rfl (fun h11 => ?_) (fun h11 => ?_)) rfl rfl
     ·refine i_mv rfl rfl rfl (i_mv rfl rfl rfl (i_mv rfl rfl rfl ?_))
      refine i_op (a_add rfl rfl (by omega) ?_) rfl rfl
      refine i_op (a_iaI (j := i + 1) hl rfl rfl (by omega) (by simp) (by omega) (fun _ _ a12 => ?_)) rfl rfl
      refine i_op (a_ldr rfl (hl.at a12 (by omega)) ?_) rfl rfl
      refine i_mv rfl rfl rfl (i_mv rfl rfl rfl ?_)
      refine i_op (a_iaI (j := i) hl rfl rfl (by omega) (by simp) (by omega) (fun _ _ a13 => ?_)) rfl rfl
      refine i_op (a_ldr rfl (hl.at a13 (by omega)) ?_) rfl rfl
      refine i_op (a_sub rfl rfl (by omega) ?_) rfl rfl
      refine i_mv rfl rfl rfl (i_mv rfl rfl rfl ?_)
      refine i_op (a_add rfl rfl (by omega) ?_) rfl rfl
      refine i_op (a_iaI (j := i + 2) hl rfl rfl (by omega) (by simp) (by omega) (fun _ _ a14 => ?_)) rfl rfl
      refine i_op (a_ldr rfl (hl.at a14 (by omega)) ?_) rfl rfl
      refine i_mv rfl rfl rfl (i_mv rfl rfl rfl ?_)
      refine i_op (a_add rfl rfl (by omega) ?_) rfl rfl
      refine i_op (a_iaI (j := i + 1) hl rfl rfl (by omega) (by simp) (by omega) (fun _ _ a15 => ?_)) rfl rfl
      refine i_op (a_ldr rfl (hl.at a15 (by omega)) ?_) rfl rfl
      refine i_op (a_sub rfl rfl (by omega) ?_) rfl rfl
      refine i_op (a_callV rfl rfl (fun s1 h1 => ratio_s _ _ _ s1 h1.wf (by omega) (by omega)) ?_) rfl rfl
      refine i_op (a_neq rfl rfl (fun h16 => ?_) (fun h16 => ?_)) rfl rfl
      ·refine i_op (a_pick_t rfl rfl rfl ?_) rfl rfl
       refine i_nil (then_n (r_cond_t rfl (r_items (i_mv rfl rfl rfl (i_nil (then_n (r_seq (r_items (i_mv rfl rfl rfl (i_mv rfl rfl rfl (i_mv rfl rfl rfl ?_)))))))))))
       refine i_op (a_build rfl rfl ?_) rfl rfl
       refine i_op (a_lit rfl rfl rfl (fun b17 => ?_)) rfl rfl
       refine i_op (a_app rfl rfl (Src.own .here rfl (by simp)) (.next .here) (by rw [flat2_len]) (.inl ⟨rfl, rfl⟩) (by decide) (by omega) (by omega) (fun b18 => ?_)) rfl rfl
       refine i_mv rfl rfl rfl (i_nil (then_n (r_items (i_mv rfl rfl rfl (i_mv rfl rfl rfl ?_)))))
       refine i_op (a_add rfl rfl (by omega) ?_) rfl rfl
       refine i_mv rfl rfl rfl (i_nil (block_n (then_n ?_)))
       exact ⟨rfl, _, _, _, (show l.length - (i + 2) < l.length - i by omega), (lc 0 rfl (lc 4 rfl (lc 3 rfl Less.nil))), (.cons_cons _ (.cons _ .slnil)), ⟨i + 2, b18, G ++ [(i, 2)], (by simp), (by rw [flat2_app]; rfl), rfl, by omega, (gr_step hG (by omega) (by first | exact many_two (by omega) (by assumption) | exact many_one (by omega) | exact many_one2 (by assumption) | exact many_three (by omega) (by assumption) | exact many_one3 (by assumption))), (by simp; omega)⟩⟩
      ·refine i_op (a_pick_t rfl rfl rfl ?_) rfl rfl
       refine i_nil (then_n (r_cond_f rfl (r_skip (then_n (r_seq (r_items (i_mv rfl rfl rfl (i_mv rfl rfl rfl (i_mv rfl rfl rfl ?_)))))))))
       refine i_op (a_build rfl rfl ?_) rfl rfl
       refine i_op (a_lit rfl rfl rfl (fun b19 => ?_)) rfl rfl
       refine i_op (a_app rfl rfl (Src.own .here rfl (by simp)) (.next .here) (by rw [flat2_len]) (.inl ⟨rfl, rfl⟩) (by decide) (by omega) (by omega) (fun b20 => ?_)) rfl rfl
       refine i_mv rfl rfl rfl (i_nil (then_n (r_items (i_mv rfl rfl rfl (i_mv rfl rfl rfl ?_)))))
       refine i_op (a_add rfl rfl (by omega) ?_) rfl rfl
       refine i_mv rfl rfl rfl (i_nil (block_n (then_n ?_)))
       exact ⟨rfl, _, _, _, (show l.length - (i + 1) < l.length - i by omega), (lc 0 rfl (lc 4 rfl (lc 3 rfl Less.nil))), (.cons_cons _ (.cons _ .slnil)), ⟨i + 1, b20, G ++ [(i, 1)], (by simp), (by rw [flat2_app]; rfl), rfl, by omega, (gr_step hG (by omega) (by first | exact many_two (by omega) (by assumption) | exact many_one (by omega) | exact many_one2 (by assumption) | exact many_three (by omega) (by assumption) | exact many_one3 (by assumption))), (by simp; omega)⟩⟩
     ·refine i_mv rfl rfl rfl (i_no rfl rfl (i_no rfl rfl (i_no rfl rfl (i_no rfl rfl (i_no rfl rfl (i_no rfl rfl (i_no rfl rfl (i_no rfl rfl (i_no rfl rfl (i_no rfl rfl (i_no rfl rfl (i_no rfl rfl (i_no rfl rfl (i_no rfl rfl (i_no rfl rfl (i_no rfl rfl (i_no rfl rfl (i_no rfl rfl (i_no rfl rfl (i_no rfl rfl (i_no rfl rfl (i_no rfl rfl (i_no rfl rfl ?_)))))))))))))))))))))))
      refine i_op (a_pick_f rfl rfl rfl ?_) rfl rfl
      refine i_nil (then_n (r_cond_f rfl (r_skip (then_n (r_seq (r_items (i_mv rfl rfl rfl (i_mv rfl rfl rfl (i_mv rfl rfl rfl ?_)))))))))
      refine i_op (a_build rfl rfl ?_) rfl rfl
      refine i_op (a_lit rfl rfl rfl (fun b21 => ?_)) rfl rfl
      refine i_op (a_app rfl rfl (Src.own .here rfl (by simp)) (.next .here) (by rw [flat2_len]) (.inl ⟨rfl, rfl⟩) (by decide) (by omega) (by omega) (fun b22 => ?_)) rfl rfl
      refine i_mv rfl rfl rfl (i_nil (then_n (r_items (i_mv rfl rfl rfl (i_mv rfl rfl rfl ?_)))))
      refine i_op (a_add rfl rfl (by omega) ?_) rfl rfl
      refine i_mv rfl rfl rfl (i_nil (block_n (then_n ?_)))
      exact ⟨rfl, _, _, _, (show l.length - (i + 1) < l.length - i by omega), (lc 0 rfl (lc 4 rfl (lc 3 rfl Less.nil))), (.cons_cons _ (.cons _ .slnil)), ⟨i + 1, b22, G ++ [(i, 1)], (by simp), (by rw [flat2_app]; rfl), rfl, by omega, (gr_step hG (by omega) (by first | exact many_two (by omega) (by assumption) | exact many_one (by omega) | exact many_one2 (by assumption) | exact many_three (by omega) (by assumption) | exact many_one3 (by assumption))), (by simp; omega)⟩⟩
    ·refine i_nil (then_n (r_cond_f rfl (r_exit (then_e (then_e (block_hit (then_n (r_seq (r_items (i_mv rfl rfl rfl (i_mv rfl rfl rfl (i_nil (then_n (r_ret ?_))))))))))))))
     first
      | exact end1A rfl (List.Sublist.refl _) ⟨b, by rw [gr_end hG (by omega)], by rw [gr_end hG (by omega)]⟩
      | (exfalso; omega)
   ·refine i_op (a_pick_t rfl rfl rfl ?_) rfl rfl
    refine i_nil (then_n (r_cond_f rfl (r_skip (then_n (r_seq (r_items (i_mv rfl rfl rfl (i_mv rfl rfl rfl (i_mv rfl rfl rfl ?_)))))))))
    refine i_op (a_build rfl rfl ?_) rfl rfl
    refine i_op (a_lit rfl rfl rfl (fun b23 => ?_)) rfl rfl
    refine i_op (a_appn rfl rfl (Src.own .here rfl (by simp)) (by decide) (by omega) (by omega) (fun b24 => ?_)) rfl rfl
    refine i_mv rfl rfl rfl (i_nil (then_n (r_items (i_mv rfl rfl rfl (i_mv rfl rfl rfl ?_)))))
    refine i_op (a_add rfl rfl (by decide) ?_) rfl rfl
    refine i_mv rfl rfl rfl (i_nil (block_n (then_n ?_)))
    refine r_loop (fun j e A => ∃ (i b : Nat) (G : List (Nat × Nat)), e = [(0, .slice a l.length cap), (4, .int .i64 (i : Int)), (3, .slice (some ⟨b, 0, none⟩) G.length OPEN)] ∧ A = [.row b 215 true (flat2 G)] ∧ j = l.length - i ∧ i ≤ l.length ∧ grs l 0 = G ++ grs l i ∧ G.length ≤ i) 160 0 281474976710656 ?_ (j := _) (env2 := _) (A2 := _) ?_ ?_ ?_ ?_ ⟨1, b24, [(0, 1)], rfl, rfl, rfl, by omega, (gr_step (G := []) (i := 0) rfl (by omega) (by first | exact many_two (by omega) (by assumption) | exact many_one (by omega) | exact many_one2 (by assumption) | exact many_three (by omega) (by assumption) | exact many_one3 (by assumption))), (by simp)⟩
    rotate_left
    ·omega
    ·omega
    ·exact (Less.cons rfl (Less.cons rfl (Less.cons rfl Less.nil)))
    ·exact (.cons_cons _ (.cons _ .slnil))
    rintro n hn j _ _ ⟨i, b, G, rfl, rfl, rfl, hi, hG, hGl⟩
    have z0 := hp.lo (i)
    have z1 := hp.lo (i + 1)
    have z2 := hp.lo (i + 2)
    have r0 : i + 1 < l.length → l.getD (i) 0 < l.getD (i + 1) 0 := fun h => hp.rise _ h
    have r1 : i + 2 < l.length → l.getD (i + 1) 0 < l.getD (i + 2) 0 := fun h => hp.rise _ h
    have hm9 := hp.hm
    have h29 := hp.h2
    refine r_seq (r_seq (r_items (i_mv rfl rfl rfl ?_)))
    refine i_op (a_add rfl rfl (by omega) ?_) rfl rfl
    refine i_mv rfl rfl rfl ?_
    refine i_op (a_lenx rfl hl.spot ?_) rfl rfl
    refine i_op (a_lss rfl rfl (fun h25 => ?_) (fun h25 => ?_)) rfl rfl
    ·refine i_nil (then_n (r_cond_t rfl (r_skip (then_n (r_block (r_seq (r_items (i_mv rfl rfl rfl (i_nil (then_n (r_seq (r_seq (r_items (i_mv rfl rfl rfl ?_))))))))))))))
     refine i_op (a_add rfl rfl (by omega) ?_) rfl rfl
     refine i_mv rfl rfl rfl ?_
     refine i_op (a_lenx rfl hl.spot ?_) rfl rfl
     refine i_op (a_lss rfl rfl (fun h26 => ?_) (fun h26 => ?_)) rfl rfl
     ·refine i_mv rfl rfl rfl (i_mv rfl rfl rfl (i_mv rfl rfl rfl ?_))
      refine i_op (a_add rfl rfl (by omega) ?_) rfl rfl
      refine i_op (a_iaI (j := i + 1) hl rfl rfl (by omega) (by simp) (by omega) (fun _ _ a27 => ?_)) rfl rfl
      refine i_op (a_ldr rfl (hl.at a27 (by omega)) ?_) rfl rfl
      refine i_mv rfl rfl rfl (i_mv rfl rfl rfl ?_)
      refine i_op (a_iaI (j := i) hl rfl rfl (by omega) (by simp) (by omega) (fun _ _ a28 => ?_)) rfl rfl
      refine i_op (a_ldr rfl (hl.at a28 (by omega)) ?_) rfl rfl
      refine i_op (a_sub rfl rfl (by omega) ?_) rfl rfl
      refine i_mv rfl rfl rfl (i_mv rfl rfl rfl ?_)
      refine i_op (a_add rfl rfl (by omega) ?_) rfl rfl
      refine i_op (a_iaI (j := i + 2) hl rfl rfl (by omega) (by simp) (by omega) (fun _ _ a29 => ?_)) rfl rfl
      refine i_op (a_ldr rfl (hl.at a29 (by omega)) ?_) rfl rfl
      refine i_mv rfl rfl rfl (i_mv rfl rfl rfl ?_)
      refine i_op (a_add rfl rfl (by omega) ?_) rfl rfl
      refine i_op (a_iaI (j := i + 1) hl rfl rfl (by omega) (by simp) (by omega) (fun _ _ a30 => ?_)) rfl rfl
      refine i_op (a_ldr rfl (hl.at a30 (by omega)) ?_) rfl rfl
      refine i_op (a_sub rfl rfl (by omega) ?_) rfl rfl
      refine i_op (a_callV rfl rfl (fun s1 h1 => ratio_s _ _ _ s1 h1.wf (by omega) (by omega)) ?_) rfl rfl
      refine i_op (a_neq rfl rfl (fun h31 => ?_) (fun h31 => ?_)) rfl rfl
      ·refine i_op (a_pick_t rfl rfl rfl ?_) rfl rfl
       refine i_nil (then_n (r_cond_t rfl (r_items (i_mv rfl rfl rfl (i_nil (then_n (r_seq (r_items (i_mv rfl rfl rfl (i_mv rfl rfl rfl (i_mv rfl rfl rfl ?_)))))))))))
       refine i_op (a_build rfl rfl ?_) rfl rfl
       refine i_op (a_lit rfl rfl rfl (fun b32 => ?_)) rfl rfl
       refine i_op (a_app rfl rfl (Src.own .here rfl (by simp)) (.next .here) (by rw [flat2_len]) (.inl ⟨rfl, rfl⟩) (by decide) (by omega) (by omega) (fun b33 => ?_)) rfl rfl
       refine i_mv rfl rfl rfl (i_nil (then_n (r_items (i_mv rfl rfl rfl (i_mv rfl rfl rfl ?_)))))
       refine i_op (a_add rfl rfl (by omega) ?_) rfl rfl
       refine i_mv rfl rfl rfl (i_nil (block_n (then_n ?_)))
       exact ⟨rfl, _, _, _, (show l.length - (i + 2) < l.length - i by omega), (lc 0 rfl (lc 4 rfl (lc 3 rfl Less.nil))), (.cons_cons _ (.cons _ .slnil)), ⟨i + 2, b33, G ++ [(i, 2)], (by simp), (by rw [flat2_app]; rfl), rfl, by omega, (gr_step hG (by omega) (by first | exact many_two (by omega) (by assumption) | exact many_one (by omega) | exact many_one2 (by assumption) | exact many_three (by omega) (by assumption) | exact many_one3 (by assumption))), (by simp; omega)⟩⟩
      ·refine i_op (a_pick_t rfl rfl rfl ?_) rfl rfl
       refine i_nil (then_n (r_cond_f rfl (r_skip (then_n (r_seq (r_items (i_mv rfl rfl rfl (i_mv rfl rfl rfl (i_mv rfl rfl rfl ?_)))))))))
       refine i_op (a_build rfl rfl ?_) rfl rfl
       refine i_op (a_lit rfl rfl rfl (fun b34 => ?_)) rfl rfl
       refine i_op (a_app rfl rfl (Src.own .here rfl (by simp)) (.next .here) (by rw [flat2_len]) (.inl ⟨rfl, rfl⟩) (by decide) (by omega) (by omega) (fun b35 => ?_)) rfl rfl
       refine i_mv rfl rfl rfl (i_nil (then_n (r_items (i_mv rfl rfl rfl (i_mv rfl rfl rfl ?_)))))
       refine i_op (a_add rfl rfl (by omega) ?_) rfl rfl
       refine i_mv rfl rfl rfl (i_nil (block_n (then_n ?_)))
       exact ⟨rfl, _, _, _, (show l.length - (i + 1) < l.length - i by omega), (lc 0 rfl (lc 4 rfl (lc 3 rfl Less.nil))), (.cons_cons _ (.cons _ .slnil)), ⟨i + 1, b35, G ++ [(i, 1)], (by simp), (by rw [flat2_app]; rfl), rfl, by omega, (gr_step hG (by omega) (by first | exact many_two (by omega) (by assumption) | exact many_one (by omega) | exact many_one2 (by assumption) | exact many_three (by omega) (by assumption) | exact many_one3 (by assumption))), (by simp; omega)⟩⟩
     ·refine i_mv rfl rfl rfl (i_no rfl rfl (i_no rfl rfl (i_no rfl rfl (i_no rfl rfl (i_no rfl rfl (i_no rfl rfl (i_no rfl rfl (i_no rfl rfl (i_no rfl rfl (i_no rfl rfl (i_no rfl rfl (i_no rfl rfl (i_no rfl rfl (i_no rfl rfl (i_no rfl rfl (i_no rfl rfl (i_no rfl rfl (i_no rfl rfl (i_no rfl rfl (i_no rfl rfl (i_no rfl rfl (i_no rfl rfl (i_no rfl rfl ?_)))))))))))))))))))))))
      refine i_op (a_pick_f rfl rfl rfl ?_) rfl rfl
      refine i_nil (then_n (r_cond_f rfl (r_skip (then_n (r_seq (r_items (i_mv rfl rfl rfl (i_mv rfl rfl rfl (i_mv rfl rfl rfl ?_)))))))))
      refine i_op (a_build rfl rfl ?_) rfl rfl
      refine i_op (a_lit rfl rfl rfl (fun b36 => ?_)) rfl rfl
      refine i_op (a_app rfl rfl (Src.own .here rfl (by simp)) (.next .here) (by rw [flat2_len]) (.inl ⟨rfl, rfl⟩) (by decide) (by omega) (by omega) (fun b37 => ?_)) rfl rfl
      refine i_mv rfl rfl rfl (i_nil (then_n (r_items (i_mv rfl rfl rfl (i_mv rfl rfl rfl ?_)))))
      refine i_op (a_add rfl rfl (by omega) ?_) rfl rfl
      refine i_mv rfl rfl rfl (i_nil (block_n (then_n ?_)))
      exact ⟨rfl, _, _, _, (show l.length - (i + 1) < l.length - i by omega), (lc 0 rfl (lc 4 rfl (lc 3 rfl Less.nil))), (.cons_cons _ (.cons _ .slnil)), ⟨i + 1, b37, G ++ [(i, 1)], (by simp), (by rw [flat2_app]; rfl), rfl, by omega, (gr_step hG (by omega) (by first | exact many_two (by omega) (by assumption) | exact many_one (by omega) | exact many_one2 (by assumption) | exact many_three (by omega) (by assumption) | exact many_one3 (by assumption))), (by simp; omega)⟩⟩
    ·refine i_nil (then_n (r_cond_f rfl (r_exit (then_e (then_e (block_hit (then_n (r_seq (r_items (i_mv rfl rfl rfl (i_mv rfl rfl rfl (i_nil (then_n (r_ret ?_))))))))))))))
     first
      | exact end1A rfl (List.Sublist.refl _) ⟨b, by rw [gr_end hG (by omega)], by rw [gr_end hG (by omega)]⟩
      | (exfalso; omega)
  ·refine i_mv rfl rfl rfl (i_no rfl rfl (i_no rfl rfl (i_no rfl rfl (i_no rfl rfl (i_no rfl rfl (i_no rfl rfl (i_no rfl rfl (i_no rfl rfl (i_no rfl rfl (i_no rfl rfl (i_no rfl rfl (i_no rfl rfl (i_no rfl rfl (i_no rfl rfl (i_no rfl rfl (i_no rfl rfl (i_no rfl rfl (i_no rfl rfl (i_no rfl rfl (i_no rfl rfl (i_no rfl rfl (i_no rfl rfl (i_no rfl rfl ?_)))))))))))))))))))))))
   refine i_op (a_pick_f rfl rfl rfl ?_) rfl rfl
   refine i_nil (then_n (r_cond_f rfl (r_skip (then_n (r_seq (r_items (i_mv rfl rfl rfl (i_mv rfl rfl rfl (i_mv rfl rfl rfl ?_)))))))))
   refine i_op (a_build rfl rfl ?_) rfl rfl
   refine i_op (a_lit rfl rfl rfl (fun b38 => ?_)) rfl rfl
   refine i_op (a_appn rfl rfl (Src.own .here rfl (by simp)) (by decide) (by omega) (by omega) (fun b39 => ?_)) rfl rfl
   refine i_mv rfl rfl rfl (i_nil (then_n (r_items (i_mv rfl rfl rfl (i_mv rfl rfl rfl ?_)))))
   refine i_op (a_add rfl rfl (by decide) ?_) rfl rfl
   refine i_mv rfl rfl rfl (i_nil (block_n (then_n ?_)))
   refine r_loop (fun j e A => ∃ (i b : Nat) (G : List (Nat × Nat)), e = [(0, .slice a l.length cap), (4, .int .i64 (i : Int)), (3, .slice (some ⟨b, 0, none⟩) G.length OPEN)] ∧ A = [.row b 215 true (flat2 G)] ∧ j = l.length - i ∧ i ≤ l.length ∧ grs l 0 = G ++ grs l i ∧ G.length ≤ i) 160 0 281474976710656 ?_ (j := _) (env2 := _) (A2 := _) ?_ ?_ ?_ ?_ ⟨1, b39, [(0, 1)], rfl, rfl, rfl, by omega, (gr_step (G := []) (i := 0) rfl (by omega) (by first | exact many_two (by omega) (by assumption) | exact many_one (by omega) | exact many_one2 (by assumption) | exact many_three (by omega) (by assumption) | exact many_one3 (by assumption))), (by simp)⟩
   rotate_left
   ·omega
   ·omega
   ·exact (Less.cons rfl (Less.cons rfl (Less.cons rfl Less.nil)))
   ·exact (.cons_cons _ (.cons _ .slnil))
   rintro n hn j _ _ ⟨i, b, G, rfl, rfl, rfl, hi, hG, hGl⟩
   have z0 := hp.lo (i)
   have z1 := hp.lo (i + 1)
   have z2 := hp.lo (i + 2)
   have r0 : i + 1 < l.length → l.getD (i) 0 < l.getD (i + 1) 0 := fun h => hp.rise _ h
   have r1 : i + 2 < l.length → l.getD (i + 1) 0 < l.getD (i + 2) 0 := fun h => hp.rise _ h
   have hm9 := hp.hm
   have h29 := hp.h2
   refine r_seq (r_seq (r_items (i_mv rfl rfl rfl ?_)))
   refine i_op (a_add rfl rfl (by omega) ?_) rfl rfl
   refine i_mv rfl rfl rfl ?_
   refine i_op (a_lenx rfl hl.spot ?_) rfl rfl
   refine i_op (a_lss rfl rfl (fun h40 => ?_) (fun h40 => ?_)) rfl rfl
   ·refine i_nil (then_n (r_cond_t rfl (r_skip (then_n (r_block (r_seq (r_items (i_mv rfl rfl rfl (i_nil (then_n (r_seq (r_seq (r_items (i_mv rfl rfl rfl ?_))))))))))))))
    refine i_op (a_add rfl rfl (by omega) ?_) rfl rfl
    refine i_mv rfl rfl rfl ?_
    refine i_op (a_lenx rfl hl.spot ?_) rfl rfl
    refine i_op (a_lss rfl rfl (fun h41 => ?_) (fun h41 => ?_)) rfl rfl
    ·refine i_mv rfl rfl rfl (i_mv rfl rfl rfl (i_mv rfl rfl rfl ?_))
     refine i_op (a_add rfl rfl (by omega) ?_) rfl rfl
     refine i_op (a_iaI (j := i + 1) hl rfl rfl (by omega) (by simp) (by omega) (fun _ _ a42 => ?_)) rfl rfl
     refine i_op (a_ldr rfl (hl.at a42 (by omega)) ?_) rfl rfl
     refine i_mv rfl rfl rfl (i_mv rfl rfl rfl ?_)
     refine i_op (a_iaI (j := i) hl rfl rfl (by omega) (by simp) (by omega) (fun _ _ a43 => ?_)) rfl rfl
     refine i_op (a_ldr rfl (hl.at a43 (by omega)) ?_) rfl rfl
     refine i_op (a_sub rfl rfl (by omega) ?_) rfl rfl
     refine i_mv rfl rfl rfl (i_mv rfl rfl rfl ?_)
     refine i_op (a_add rfl rfl (by omega) ?_) rfl rfl
     refine i_op (a_iaI (j := i + 2) hl rfl rfl (by omega) (by simp) (by omega) (fun _ _ a44 => ?_)) rfl rfl
     refine i_op (a_ldr rfl (hl.at a44 (by omega)) ?_) rfl rfl
     refine i_mv rfl rfl rfl (i_mv rfl rfl rfl ?_)
     refine i_op (a_add rfl rfl (by omega) ?_) rfl rfl
     refine i_op (a_iaI (j := i + 1) hl rfl rfl (by omega) (by simp) (by omega) (fun _ _ a45 => ?_)) rfl rfl
     refine i_op (a_ldr rfl (hl.at a45 (by omega)) ?_) rfl rfl
     refine i_op (a_sub rfl rfl (by omega) ?_) rfl rfl
     refine i_op (a_callV rfl rfl (fun s1 h1 => ratio_s _ _ _ s1 h1.wf (by omega) (by omega)) ?_) rfl rfl
     refine i_op (a_neq rfl rfl (fun h46 => ?_) (fun h46 => ?_)) rfl rfl
     ·refine i_op (a_pick_t rfl rfl rfl ?_) rfl rfl
      refine i_nil (then_n (r_cond_t rfl (r_items (i_mv rfl rfl rfl (i_nil (then_n (r_seq (r_items (i_mv rfl rfl rfl (i_mv rfl rfl rfl (i_mv rfl rfl rfl ?_)))))))))))
      refine i_op (a_build rfl rfl ?_) rfl rfl
      refine i_op (a_lit rfl rfl rfl (fun b47 => ?_)) rfl rfl
      refine i_op (a_app rfl rfl (Src.own .here rfl (by simp)) (.next .here) (by rw [flat2_len]) (.inl ⟨rfl, rfl⟩) (by decide) (by omega) (by omega) (fun b48 => ?_)) rfl rfl
      refine i_mv rfl rfl rfl (i_nil (then_n (r_items (i_mv rfl rfl rfl (i_mv rfl rfl rfl ?_)))))
      refine i_op (a_add rfl rfl (by omega) ?_) rfl rfl
      refine i_mv rfl rfl rfl (i_nil (block_n (then_n ?_)))
      exact ⟨rfl, _, _, _, (show l.length - (i + 2) < l.length - i by omega), (lc 0 rfl (lc 4 rfl (lc 3 rfl Less.nil))), (.cons_cons _ (.cons _ .slnil)), ⟨i + 2, b48, G ++ [(i, 2)], (by simp), (by rw [flat2_app]; rfl), rfl, by omega, (gr_step hG (by omega) (by first | exact many_two (by omega) (by assumption) | exact many_one (by omega) | exact many_one2 (by assumption) | exact many_three (by omega) (by assumption) | exact many_one3 (by assumption))), (by simp; omega)⟩⟩
     ·refine i_op (a_pick_t rfl rfl rfl ?_) rfl rfl
      refine i_nil (then_n (r_cond_f rfl (r_skip (then_n (r_seq (r_items (i_mv rfl rfl rfl (i_mv rfl rfl rfl (i_mv rfl rfl rfl ?_)))))))))
      refine i_op (a_build rfl rfl ?_) rfl rfl
      refine i_op (a_lit rfl rfl rfl (fun b49 => ?_)) rfl rfl
      refine i_op (a_app rfl rfl (Src.own .here rfl (by simp)) (.next .here) (by rw [flat2_len]) (.inl ⟨rfl, rfl⟩) (by decide) (by omega) (by omega) (fun b50 => ?_)) rfl rfl
      refine i_mv rfl rfl rfl (i_nil (then_n (r_items (i_mv rfl rfl rfl (i_mv rfl rfl rfl ?_)))))
      refine i_op (a_add rfl rfl (by omega) ?_) rfl rfl
      refine i_mv rfl rfl rfl (i_nil (block_n (then_n ?_)))
      exact ⟨rfl, _, _, _, (show l.length - (i + 1) < l.length - i by omega), (lc 0 rfl (lc 4 rfl (lc 3 rfl Less.nil))), (.cons_cons _ (.cons _ .slnil)), ⟨i + 1, b50, G ++ [(i, 1)], (by simp), (by rw [flat2_app]; rfl), rfl, by omega, (gr_step hG (by omega) (by first | exact many_two (by omega) (by assumption) | exact many_one (by omega) | exact many_one2 (by assumption) | exact many_three (by omega) (by assumption) | exact many_one3 (by assumption))), (by simp; omega)⟩⟩
    ·refine i_mv rfl rfl rfl (i_no rfl rfl (i_no rfl rfl (i_no rfl rfl (i_no rfl rfl (i_no rfl rfl (i_no rfl rfl (i_no rfl rfl (i_no rfl rfl (i_no rfl rfl (i_no rfl rfl (i_no rfl rfl (i_no rfl rfl (i_no rfl rfl (i_no rfl rfl (i_no rfl rfl (i_no rfl rfl (i_no rfl rfl (i_no rfl rfl (i_no rfl rfl (i_no rfl rfl (i_no rfl rfl (i_no rfl rfl (i_no rfl rfl ?_)))))))))))))))))))))))
     refine i_op (a_pick_f rfl rfl rfl ?_) rfl rfl
     refine i_nil (then_n (r_cond_f rfl (r_skip (then_n (r_seq (r_items (i_mv rfl rfl rfl (i_mv rfl rfl rfl (i_mv rfl rfl rfl ?_)))))))))
     refine i_op (a_build rfl rfl ?_) rfl rfl
     refine i_op (a_lit rfl rfl rfl (fun b51 => ?_)) rfl rfl
     refine i_op (a_app rfl rfl (Src.own .here rfl (by simp)) (.next .here) (by rw [flat2_len]) (.inl ⟨rfl, rfl⟩) (by decide) (by omega) (by omega) (fun b52 => ?_)) rfl rfl
     refine i_mv rfl rfl rfl (i_nil (then_n (r_items (i_mv rfl rfl rfl (i_mv rfl rfl rfl ?_)))))
     refine i_op (a_add rfl rfl (by omega) ?_) rfl rfl
     refine i_mv rfl rfl rfl (i_nil (block_n (then_n ?_)))
     exact ⟨rfl, _, _, _, (show l.length - (i + 1) < l.length - i by omega), (lc 0 rfl (lc 4 rfl (lc 3 rfl Less.nil))), (.cons_cons _ (.cons _ .slnil)), ⟨i + 1, b52, G ++ [(i, 1)], (by simp), (by rw [flat2_app]; rfl), rfl, by omega, (gr_step hG (by omega) (by first | exact many_two (by omega) (by assumption) | exact many_one (by omega) | exact many_one2 (by assumption) | exact many_three (by omega) (by assumption) | exact many_one3 (by assumption))), (by simp; omega)⟩⟩
   ·refine i_nil (then_n (r_cond_f rfl (r_exit (then_e (then_e (block_hit (then_n (r_seq (r_items (i_mv rfl rfl rfl (i_mv rfl rfl rfl (i_nil (then_n (r_ret ?_))))))))))))))
    first
     | exact end1A rfl (List.Sublist.refl _) ⟨b, by rw [gr_end hG (by omega)], by rw [gr_end hG (by omega)]⟩
     | (exfalso; omega)
 ·refine i_nil (then_n (r_cond_f rfl (r_exit (then_e (then_e (block_hit (then_n (r_seq (r_items (i_mv rfl rfl rfl (i_mv rfl rfl rfl (i_nil (then_n (r_ret ?_))))))))))))))
  first
   | exact end1A rfl (List.Sublist.refl _) ⟨_, by rw [gr_end hG (by omega)], by rw [gr_end hG (by omega)]⟩
   | (exfalso; omega)
theorem groups_s (n : Nat) (a : Option Addr) (cap : Nat) (l : List Int) (s : St) (hs : Wf s) (hn : 281474976710656 ≤ n) (hl : IntsE s a l) (hp : Plc 9 100000 l) : Spec Tryz.prog (tabK tabw) X (n + 300) 165 [.slice a l.length cap] s (fun v A => ∃ b, v = .slice (some ⟨b, 0, none⟩) (grs l 0).length OPEN ∧ A = [.row b 215 true (flat2 (grs l 0))]) := by
 refine enter bw165_at rfl hs ?_
 unfold bw165
 have hlen := hl.len
 have z0 := hp.lo (0)
 have z1 := hp.lo (1)
 have z2 := hp.lo (2)
 have r0 : 1 < l.length → l.getD (0) 0 < l.getD (1) 0 := fun h => hp.rise _ h
 have r1 : 2 < l.length → l.getD (1) 0 < l.getD (2) 0 := fun h => hp.rise _ h
 have hm9 := hp.hm
 have h29 := hp.h2
 refine r_seq (r_items (i_mv rfl rfl rfl (i_nil (then_n (r_seq (r_items (i_mv rfl rfl rfl (i_nil (then_n (r_seq (r_items (i_mv rfl rfl rfl (i_nil (then_n (r_seq (r_block ?_))))))))))))))))
 refine r_unroll ?_
 refine r_seq (r_seq (r_items (i_mv rfl rfl rfl ?_)))
 refine i_op (a_add rfl rfl (by decide) ?_) rfl rfl
 refine i_mv rfl rfl rfl ?_
 refine i_op (a_lenx rfl hl.spot ?_) rfl rfl
 refine i_op (a_lss rfl rfl (fun h1 => ?_) (fun h1 => ?_)) rfl rfl
 ·refine i_nil (then_n (r_cond_t rfl (r_skip (then_n (r_block (r_seq (r_items (i_mv rfl rfl rfl (i_nil (then_n (r_seq (r_seq (r_items (i_mv rfl rfl rfl ?_))))))))))))))
  refine i_op (a_add rfl rfl (by decide) ?_) rfl rfl
  refine i_mv rfl rfl rfl ?_
  refine i_op (a_lenx rfl hl.spot ?_) rfl rfl
  refine i_op (a_lss rfl rfl (fun h2 => ?_) (fun h2 => ?_)) rfl rfl
  ·refine i_mv rfl rfl rfl (i_mv rfl rfl rfl (i_mv rfl rfl rfl ?_))
   refine i_op (a_add rfl rfl (by decide) ?_) rfl rfl
   refine i_op (a_iaI (j := 1) hl rfl rfl (by omega) (by simp) (by omega) (fun _ _ a3 => ?_)) rfl rfl
   refine i_op (a_ldr rfl (hl.at a3 (by omega)) ?_) rfl rfl
   refine i_mv rfl rfl rfl (i_mv rfl rfl rfl ?_)
   refine i_op (a_iaI (j := 0) hl rfl rfl (by omega) (by simp) (by omega) (fun _ _ a4 => ?_)) rfl rfl
   refine i_op (a_ldr rfl (hl.at a4 (by omega)) ?_) rfl rfl
   refine i_op (a_sub rfl rfl (by omega) ?_) rfl rfl
   refine i_mv rfl rfl rfl (i_mv rfl rfl rfl ?_)
   refine i_op (a_add rfl rfl (by decide) ?_) rfl rfl
   refine i_op (a_iaI (j := 2) hl rfl rfl (by omega) (by simp) (by omega) (fun _ _ a5 => ?_)) rfl rfl
   refine i_op (a_ldr rfl (hl.at a5 (by omega)) ?_) rfl rfl
   refine i_mv rfl rfl rfl (i_mv rfl rfl rfl ?_)
   refine i_op (a_add rfl rfl (by decide) ?_) rfl rfl
   refine i_op (a_iaI (j := 1) hl rfl rfl (by omega) (by simp) (by omega) (fun _ _ a6 => ?_)) rfl rfl
   refine i_op (a_ldr rfl (hl.at a6 (by omega)) ?_) rfl rfl
   refine i_op (a_sub rfl rfl (by omega) ?_) rfl rfl
   refine i_op (a_callV rfl rfl (fun s1 h1 => times_s _ _ _ s1 h1.wf (by omega) (by omega)) ?_) rfl rfl
   refine i_op (a_gtr rfl rfl (fun h7 => ?_) (fun h7 => ?_)) rfl rfl
   ·refine i_op (a_pick_t rfl rfl rfl ?_) rfl rfl
    refine i_nil (then_n (r_cond_t rfl (r_items (i_mv rfl rfl rfl (i_nil (then_n (r_seq (r_items (i_mv rfl rfl rfl (i_mv rfl rfl rfl (i_mv rfl rfl rfl ?_)))))))))))
    refine i_op (a_build rfl rfl ?_) rfl rfl
    refine i_op (a_lit rfl rfl rfl (fun b8 => ?_)) rfl rfl
    refine i_op (a_appn rfl rfl (Src.own .here rfl (by simp)) (by decide) (by omega) (by omega) (fun b9 => ?_)) rfl rfl
    refine i_mv rfl rfl rfl (i_nil (then_n (r_items (i_mv rfl rfl rfl (i_mv rfl rfl rfl ?_)))))
    refine i_op (a_add rfl rfl (by decide) ?_) rfl rfl
    refine i_mv rfl rfl rfl (i_nil (block_n (then_n ?_)))
    refine r_loop (fun j e A => ∃ (i b : Nat) (G : List (Nat × Nat)), e = [(0, .slice a l.length cap), (4, .int .i64 (i : Int)), (3, .slice (some ⟨b, 0, none⟩) G.length OPEN)] ∧ A = [.row b 215 true (flat2 G)] ∧ j = l.length - i ∧ i ≤ l.length ∧ grs l 0 = G ++ grs l i ∧ G.length ≤ i) 160 0 281474976710656 ?_ (j := _) (env2 := _) (A2 := _) ?_ ?_ ?_ ?_ ⟨2, b9, [(0, 2)], rfl, rfl, rfl, by omega, (gr_step (G := []) (i := 0) rfl (by omega) (by first | exact many_two (by omega) (by assumption) | exact many_one (by omega) | exact many_one2 (by assumption) | exact many_three (by omega) (by assumption) | exact many_one3 (by assumption))), (by simp)⟩
    rotate_left
    ·omega
    ·omega
    ·exact (Less.cons rfl (Less.cons rfl (Less.cons rfl Less.nil)))
    ·exact (.cons_cons _ (.cons _ .slnil))
    rintro n hn j _ _ ⟨i, b, G, rfl, rfl, rfl, hi, hG, hGl⟩
    have z0 := hp.lo (i)
    have z1 := hp.lo (i + 1)
    have z2 := hp.lo (i + 2)
    have r0 : i + 1 < l.length → l.getD (i) 0 < l.getD (i + 1) 0 := fun h => hp.rise _ h
    have r1 : i + 2 < l.length → l.getD (i + 1) 0 < l.getD (i + 2) 0 := fun h => hp.rise _ h
    have hm9 := hp.hm
    have h29 := hp.h2
    refine r_seq (r_seq (r_items (i_mv rfl rfl rfl ?_)))
    refine i_op (a_add rfl rfl (by omega) ?_) rfl rfl
    refine i_mv rfl rfl rfl ?_
    refine i_op (a_lenx rfl hl.spot ?_) rfl rfl
    refine i_op (a_lss rfl rfl (fun h10 => ?_) (fun h10 => ?_)) rfl rfl
    ·refine i_nil (then_n (r_cond_t rfl (r_skip (then_n (r_block (r_seq (r_items (i_mv rfl rfl rfl (i_nil (then_n (r_seq (r_seq (r_items (i_mv rfl rfl rfl ?_))))))))))))))
     refine i_op (a_add rfl rfl (by omega) ?_) rfl rfl
     refine i_mv rfl rfl rfl ?_
     refine i_op (a_lenx rfl hl.spot ?_) rfl rfl
     refine i_op (a_lss rfl rfl (fun h11 => ?_) (fun h11 => ?_)) rfl rfl
     ·refine i_mv rfl rfl rfl (i_mv rfl rfl rfl (i_mv rfl rfl rfl ?_))
      refine i_op (a_add rfl rfl (by omega) ?_) rfl rfl
      refine i_op (a_iaI (j := i + 1) hl rfl rfl (by omega) (by simp) (by omega) (fun _ _ a12 => ?_)) rfl rfl
      refine i_op (a_ldr rfl (hl.at a12 (by omega)) ?_) rfl rfl
      refine i_mv rfl rfl rfl (i_mv rfl rfl rfl ?_)
      refine i_op (a_iaI (j := i) hl rfl rfl (by omega) (by simp) (by omega) (fun _ _ a13 => ?_)) rfl rfl
      refine i_op (a_ldr rfl (hl.at a13 (by omega)) ?_) rfl rfl
      refine i_op (a_sub rfl rfl (by omega) ?_) rfl rfl
      refine i_mv rfl rfl rfl (i_mv rfl rfl rfl ?_)
      refine i_op (a_add rfl rfl (by omega) ?_) rfl rfl
      refine i_op (a_iaI (j := i + 2) hl rfl rfl (by omega) (by simp) (by omega) (fun _ _ a14 => ?_)) rfl rfl
      refine i_op (a_ldr rfl (hl.at a14 (by omega)) ?_) rfl rfl
      refine i_mv rfl rfl rfl (i_mv rfl rfl rfl ?_)
      refine i_op (a_add rfl rfl (by omega) ?_) rfl rfl
      refine i_op (a_iaI (j := i + 1) hl rfl rfl (by omega) (by simp) (by omega) (fun _ _ a15 => ?_)) rfl rfl
      refine i_op (a_ldr rfl (hl.at a15 (by omega)) ?_) rfl rfl
      refine i_op (a_sub rfl rfl (by omega) ?_) rfl rfl
      refine i_op (a_callV rfl rfl (fun s1 h1 => times_s _ _ _ s1 h1.wf (by omega) (by omega)) ?_) rfl rfl
      refine i_op (a_gtr rfl rfl (fun h16 => ?_) (fun h16 => ?_)) rfl rfl
      ·refine i_op (a_pick_t rfl rfl rfl ?_) rfl rfl
       refine i_nil (then_n (r_cond_t rfl (r_items (i_mv rfl rfl rfl (i_nil (then_n (r_seq (r_items (i_mv rfl rfl rfl (i_mv rfl rfl rfl (i_mv rfl rfl rfl ?_)))))))))))
       refine i_op (a_build rfl rfl ?_) rfl rfl
       refine i_op (a_lit rfl rfl rfl (fun b17 => ?_)) rfl rfl
       refine i_op (a_app rfl rfl (Src.own .here rfl (by simp)) (.next .here) (by rw [flat2_len]) (.inl ⟨rfl, rfl⟩) (by decide) (by omega) (by omega) (fun b18 => ?_)) rfl rfl
       refine i_mv rfl rfl rfl (i_nil (then_n (r_items (i_mv rfl rfl rfl (i_mv rfl rfl rfl ?_)))))
       refine i_op (a_add rfl rfl (by omega) ?_) rfl rfl
       refine i_mv rfl rfl rfl (i_nil (block_n (then_n ?_)))
       exact ⟨rfl, _, _, _, (show l.length - (i + 2) < l.length - i by omega), (lc 0 rfl (lc 4 rfl (lc 3 rfl Less.nil))), (.cons_cons _ (.cons _ .slnil)), ⟨i + 2, b18, G ++ [(i, 2)], (by simp), (by rw [flat2_app]; rfl), rfl, by omega, (gr_step hG (by omega) (by first | exact many_two (by omega) (by assumption) | exact many_one (by omega) | exact many_one2 (by assumption) | exact many_three (by omega) (by assumption) | exact many_one3 (by assumption))), (by simp; omega)⟩⟩
      ·refine i_op (a_pick_t rfl rfl rfl ?_) rfl rfl
       refine i_nil (then_n (r_cond_f rfl (r_skip (then_n (r_seq (r_items (i_mv rfl rfl rfl (i_mv rfl rfl rfl (i_mv rfl rfl rfl ?_)))))))))
       refine i_op (a_build rfl rfl ?_) rfl rfl
       refine i_op (a_lit rfl rfl rfl (fun b19 => ?_)) rfl rfl
       refine i_op (a_app rfl rfl (Src.own .here rfl (by simp)) (.next .here) (by rw [flat2_len]) (.inl ⟨rfl, rfl⟩) (by decide) (by omega) (by omega) (fun b20 => ?_)) rfl rfl
       refine i_mv rfl rfl rfl (i_nil (then_n (r_items (i_mv rfl rfl rfl (i_mv rfl rfl rfl ?_)))))
       refine i_op (a_add rfl rfl (by omega) ?_) rfl rfl
       refine i_mv rfl rfl rfl (i_nil (block_n (then_n ?_)))
       exact ⟨rfl, _, _, _, (show l.length - (i + 1) < l.length - i by omega), (lc 0 rfl (lc 4 rfl (lc 3 rfl Less.nil))), (.cons_cons _ (.cons _ .slnil)), ⟨i + 1, b20, G ++ [(i, 1)], (by simp), (by rw [flat2_app]; rfl), rfl, by omega, (gr_step hG (by omega) (by first | exact many_two (by omega) (by assumption) | exact many_one (by omega) | exact many_one2 (by assumption) | exact many_three (by omega) (by assumption) | exact many_one3 (by assumption))), (by simp; omega)⟩⟩
     ·refine i_mv rfl rfl rfl (i_no rfl rfl (i_no rfl rfl (i_no rfl rfl (i_no rfl rfl (i_no rfl rfl (i_no rfl rfl (i_no rfl rfl (i_no rfl rfl (i_no rfl rfl (i_no rfl rfl (i_no rfl rfl (i_no rfl rfl (i_no rfl rfl (i_no rfl rfl (i_no rfl rfl (i_no rfl rfl (i_no rfl rfl (i_no rfl rfl (i_no rfl rfl (i_no rfl rfl (i_no rfl rfl (i_no rfl rfl (i_no rfl rfl ?_)))))))))))))))))))))))
      refine i_op (a_pick_f rfl rfl rfl ?_) rfl rfl
      refine i_nil (then_n (r_cond_f rfl (r_skip (then_n (r_seq (r_items (i_mv rfl rfl rfl (i_mv rfl rfl rfl (i_mv rfl rfl rfl ?_)))))))))
      refine i_op (a_build rfl rfl ?_) rfl rfl
      refine i_op (a_lit rfl rfl rfl (fun b21 => ?_)) rfl rfl
      refine i_op (a_app rfl rfl (Src.own .here rfl (by simp)) (.next .here) (by rw [flat2_len]) (.inl ⟨rfl, rfl⟩) (by decide) (by omega) (by omega) (fun b22 => ?_)) rfl rfl
      refine i_mv rfl rfl rfl (i_nil (then_n (r_items (i_mv rfl rfl rfl (i_mv rfl rfl rfl ?_)))))
      refine i_op (a_add rfl rfl (by omega) ?_) rfl rfl
      refine i_mv rfl rfl rfl (i_nil (block_n (then_n ?_)))
      exact ⟨rfl, _, _, _, (show l.length - (i + 1) < l.length - i by omega), (lc 0 rfl (lc 4 rfl (lc 3 rfl Less.nil))), (.cons_cons _ (.cons _ .slnil)), ⟨i + 1, b22, G ++ [(i, 1)], (by simp), (by rw [flat2_app]; rfl), rfl, by omega, (gr_step hG (by omega) (by first | exact many_two (by omega) (by assumption) | exact many_one (by omega) | exact many_one2 (by assumption) | exact many_three (by omega) (by assumption) | exact many_one3 (by assumption))), (by simp; omega)⟩⟩
    ·refine i_nil (then_n (r_cond_f rfl (r_exit (then_e (then_e (block_hit (then_n (r_seq (r_items (i_mv rfl rfl rfl (i_mv rfl rfl rfl (i_nil (then_n (r_ret ?_))))))))))))))
     first
      | exact end1A rfl (List.Sublist.refl _) ⟨b, by rw [gr_end hG (by omega)], by rw [gr_end hG (by omega)]⟩
      | (exfalso; omega)
   ·refine i_op (a_pick_t rfl rfl rfl ?_) rfl rfl
    refine i_nil (then_n (r_cond_f rfl (r_skip (then_n (r_seq (r_items (i_mv rfl rfl rfl (i_mv rfl rfl rfl (i_mv rfl rfl rfl ?_)))))))))
    refine i_op (a_build rfl rfl ?_) rfl rfl
    refine i_op (a_lit rfl rfl rfl (fun b23 => ?_)) rfl rfl
    refine i_op (a_appn rfl rfl (Src.own .here rfl (by simp)) (by decide) (by omega) (by omega) (fun b24 => ?_)) rfl rfl
    refine i_mv rfl rfl rfl (i_nil (then_n (r_items (i_mv rfl rfl rfl (i_mv rfl rfl rfl ?_)))))
    refine i_op (a_add rfl rfl (by decide) ?_) rfl rfl
    refine i_mv rfl rfl rfl (i_nil (block_n (then_n ?_)))
    refine r_loop (fun j e A => ∃ (i b : Nat) (G : List (Nat × Nat)), e = [(0, .slice a l.length cap), (4, .int .i64 (i : Int)), (3, .slice (some ⟨b, 0, none⟩) G.length OPEN)] ∧ A = [.row b 215 true (flat2 G)] ∧ j = l.length - i ∧ i ≤ l.length ∧ grs l 0 = G ++ grs l i ∧ G.length ≤ i) 160 0 281474976710656 ?_ (j := _) (env2 := _) (A2 := _) ?_ ?_ ?_ ?_ ⟨1, b24, [(0, 1)], rfl, rfl, rfl, by omega, (gr_step (G := []) (i := 0) rfl (by omega) (by first | exact many_two (by omega) (by assumption) | exact many_one (by omega) | exact many_one2 (by assumption) | exact many_three (by omega) (by assumption) | exact many_one3 (by assumption))), (by simp)⟩
    rotate_left
    ·omega
    ·omega
    ·exact (Less.cons rfl (Less.cons rfl (Less.cons rfl Less.nil)))
    ·exact (.cons_cons _ (.cons _ .slnil))
    rintro n hn j _ _ ⟨i, b, G, rfl, rfl, rfl, hi, hG, hGl⟩
    have z0 := hp.lo (i)
    have z1 := hp.lo (i + 1)
    have z2 := hp.lo (i + 2)
    have r0 : i + 1 < l.length → l.getD (i) 0 < l.getD (i + 1) 0 := fun h => hp.rise _ h
    have r1 : i + 2 < l.length → l.getD (i + 1) 0 < l.getD (i + 2) 0 := fun h => hp.rise _ h
    have hm9 := hp.hm
    have h29 := hp.h2
    refine r_seq (r_seq (r_items (i_mv rfl rfl rfl ?_)))
    refine i_op (a_add rfl rfl (by omega) ?_) rfl rfl
    refine i_mv rfl rfl rfl ?_
    refine i_op (a_lenx rfl hl.spot ?_) rfl rfl
    refine i_op (a_lss rfl rfl (fun h25 => ?_) (fun h25 => ?_)) rfl rfl
    ·refine i_nil (then_n (r_cond_t rfl (r_skip (then_n (r_block (r_seq (r_items (i_mv rfl rfl rfl (i_nil (then_n (r_seq (r_seq (r_items (i_mv rfl rfl rfl ?_))))))))))))))
     refine i_op (a_add rfl rfl (by omega) ?_) rfl rfl
     refine i_mv rfl rfl rfl ?_
     refine i_op (a_lenx rfl hl.spot ?_) rfl rfl
     refine i_op (a_lss rfl rfl (fun h26 => ?_) (fun h26 => ?_)) rfl rfl
     ·refine i_mv rfl rfl rfl (i_mv rfl rfl rfl (i_mv rfl rfl rfl ?_))
      refine i_op (a_add rfl rfl (by omega) ?_) rfl rfl
      refine i_op (a_iaI (j := i + 1) hl rfl rfl (by omega) (by simp) (by omega) (fun _ _ a27 => ?_)) rfl rfl
      refine i_op (a_ldr rfl (hl.at a27 (by omega)) ?_) rfl rfl
      refine i_mv rfl rfl rfl (i_mv rfl rfl rfl ?_)
      refine i_op (a_iaI (j := i) hl rfl rfl (by omega) (by simp) (by omega) (fun _ _ a28 => ?_)) rfl rfl
      refine i_op (a_ldr rfl (hl.at a28 (by omega)) ?_) rfl rfl
      refine i_op (a_sub rfl rfl (by omega) ?_) rfl rfl
      refine i_mv rfl rfl rfl (i_mv rfl rfl rfl ?_)
      refine i_op (a_add rfl rfl (by omega) ?_) rfl rfl
      refine i_op (a_iaI (j := i + 2) hl rfl rfl (by omega) (by simp) (by omega) (fun _ _ a29 => ?_)) rfl rfl
      refine i_op (a_ldr rfl (hl.at a29 (by omega)) ?_) rfl rfl
      refine i_mv rfl rfl rfl (i_mv rfl rfl rfl ?_)
      refine i_op (a_add rfl rfl (by omega) ?_) rfl rfl
      refine i_op (a_iaI (j := i + 1) hl rfl rfl (by omega) (by simp) (by omega) (fun _ _ a30 => ?_)) rfl rfl
      refine i_op (a_ldr rfl (hl.at a30 (by omega)) ?_) rfl rfl
      refine i_op (a_sub rfl rfl (by omega) ?_) rfl rfl
      refine i_op (a_callV rfl rfl (fun s1 h1 => times_s _ _ _ s1 h1.wf (by omega) (by omega)) ?_) rfl rfl
      refine i_op (a_gtr rfl rfl (fun h31 => ?_) (fun h31 => ?_)) rfl rfl
      ·refine i_op (a_pick_t rfl rfl rfl ?_) rfl rfl
       refine i_nil (then_n (r_cond_t rfl (r_items (i_mv rfl rfl rfl (i_nil (then_n (r_seq (r_items (i_mv rfl rfl rfl (i_mv rfl rfl rfl (i_mv rfl rfl rfl ?_)))))))))))
       refine i_op (a_build rfl rfl ?_) rfl rfl
       refine i_op (a_lit rfl rfl rfl (fun b32 => ?_)) rfl rfl
       refine i_op (a_app rfl rfl (Src.own .here rfl (by simp)) (.next .here) (by rw [flat2_len]) (.inl ⟨rfl, rfl⟩) (by decide) (by omega) (by omega) (fun b33 => ?_)) rfl rfl
       refine i_mv rfl rfl rfl (i_nil (then_n (r_items (i_mv rfl rfl rfl (i_mv rfl rfl rfl ?_)))))
       refine i_op (a_add rfl rfl (by omega) ?_) rfl rfl
       refine i_mv rfl rfl rfl (i_nil (block_n (then_n ?_)))
       exact ⟨rfl, _, _, _, (show l.length - (i + 2) < l.length - i by omega), (lc 0 rfl (lc 4 rfl (lc 3 rfl Less.nil))), (.cons_cons _ (.cons _ .slnil)), ⟨i + 2, b33, G ++ [(i, 2)], (by simp), (by rw [flat2_app]; rfl), rfl, by omega, (gr_step hG (by omega) (by first | exact many_two (by omega) (by assumption) | exact many_one (by omega) | exact many_one2 (by assumption) | exact many_three (by omega) (by assumption) | exact many_one3 (by assumption))), (by simp; omega)⟩⟩
      ·refine i_op (a_pick_t rfl rfl rfl ?_) rfl rfl
       refine i_nil (then_n (r_cond_f rfl (r_skip (then_n (r_seq (r_items (i_mv rfl rfl rfl (i_mv rfl rfl rfl (i_mv rfl rfl rfl ?_)))))))))
       refine i_op (a_build rfl rfl ?_) rfl rfl
       refine i_op (a_lit rfl rfl rfl (fun b34 => ?_)) rfl rfl
       refine i_op (a_app rfl rfl (Src.own .here rfl (by simp)) (.next .here) (by rw [flat2_len]) (.inl ⟨rfl, rfl⟩) (by decide) (by omega) (by omega) (fun b35 => ?_)) rfl rfl
       refine i_mv rfl rfl rfl (i_nil (then_n (r_items (i_mv rfl rfl rfl (i_mv rfl rfl rfl ?_)))))
       refine i_op (a_add rfl rfl (by omega) ?_) rfl rfl
       refine i_mv rfl rfl rfl (i_nil (block_n (then_n ?_)))
       exact ⟨rfl, _, _, _, (show l.length - (i + 1) < l.length - i by omega), (lc 0 rfl (lc 4 rfl (lc 3 rfl Less.nil))), (.cons_cons _ (.cons _ .slnil)), ⟨i + 1, b35, G ++ [(i, 1)], (by simp), (by rw [flat2_app]; rfl), rfl, by omega, (gr_step hG (by omega) (by first | exact many_two (by omega) (by assumption) | exact many_one (by omega) | exact many_one2 (by assumption) | exact many_three (by omega) (by assumption) | exact many_one3 (by assumption))), (by simp; omega)⟩⟩
     ·refine i_mv rfl rfl rfl (i_no rfl rfl (i_no rfl rfl (i_no rfl rfl (i_no rfl rfl (i_no rfl rfl (i_no rfl rfl (i_no rfl rfl (i_no rfl rfl (i_no rfl rfl (i_no rfl rfl (i_no rfl rfl (i_no rfl rfl (i_no rfl rfl (i_no rfl rfl (i_no rfl rfl (i_no rfl rfl (i_no rfl rfl (i_no rfl rfl (i_no rfl rfl (i_no rfl rfl (i_no rfl rfl (i_no rfl rfl (i_no rfl rfl ?_)))))))))))))))))))))))
      refine i_op (a_pick_f rfl rfl rfl ?_) rfl rfl
      refine i_nil (then_n (r_cond_f rfl (r_skip (then_n (r_seq (r_items (i_mv rfl rfl rfl (i_mv rfl rfl rfl (i_mv rfl rfl rfl ?_)))))))))
      refine i_op (a_build rfl rfl ?_) rfl rfl
      refine i_op (a_lit rfl rfl rfl (fun b36 => ?_)) rfl rfl
      refine i_op (a_app rfl rfl (Src.own .here rfl (by simp)) (.next .here) (by rw [flat2_len]) (.inl ⟨rfl, rfl⟩) (by decide) (by omega) (by omega) (fun b37 => ?_)) rfl rfl
      refine i_mv rfl rfl rfl (i_nil (then_n (r_items (i_mv rfl rfl rfl (i_mv rfl rfl rfl ?_)))))
      refine i_op (a_add rfl rfl (by omega) ?_) rfl rfl
      refine i_mv rfl rfl rfl (i_nil (block_n (then_n ?_)))
      exact ⟨rfl, _, _, _, (show l.length - (i + 1) < l.length - i by omega), (lc 0 rfl (lc 4 rfl (lc 3 rfl Less.nil))), (.cons_cons _ (.cons _ .slnil)), ⟨i + 1, b37, G ++ [(i, 1)], (by simp), (by rw [flat2_app]; rfl), rfl, by omega, (gr_step hG (by omega) (by first | exact many_two (by omega) (by assumption) | exact many_one (by omega) | exact many_one2 (by assumption) | exact many_three (by omega) (by assumption) | exact many_one3 (by assumption))), (by simp; omega)⟩⟩
    ·refine i_nil (then_n (r_cond_f rfl (r_exit (then_e (then_e (block_hit (then_n (r_seq (r_items (i_mv rfl rfl rfl (i_mv rfl rfl rfl (i_nil (then_n (r_ret ?_))))))))))))))
     first
      | exact end1A rfl (List.Sublist.refl _) ⟨b, by rw [gr_end hG (by omega)], by rw [gr_end hG (by omega)]⟩
      | (exfalso; omega)
  ·refine i_mv rfl rfl rfl (i_no rfl rfl (i_no rfl rfl (i_no rfl rfl (i_no rfl rfl (i_no rfl rfl (i_no rfl rfl (i_no rfl rfl (i_no rfl rfl (i_no rfl rfl (i_no rfl rfl (i_no rfl rfl (i_no rfl rfl (i_no rfl rfl (i_no rfl rfl (i_no rfl rfl (i_no rfl rfl (i_no rfl rfl (i_no rfl rfl (i_no rfl rfl (i_no rfl rfl (i_no rfl rfl (i_no rfl rfl (i_no rfl rfl ?_)))))))))))))))))))))))
   refine i_op (a_pick_f rfl rfl rfl ?_) rfl rfl
   refine i_nil (then_n (r_cond_f rfl (r_skip (then_n (r_seq (r_items (i_mv rfl rfl rfl (i_mv rfl rfl rfl (i_mv rfl rfl rfl ?_)))))))))
   refine i_op (a_build rfl rfl ?_) rfl rfl
   refine i_op (a_lit rfl rfl rfl (fun b38 => ?_)) rfl rfl
   refine i_op (a_appn rfl rfl (Src.own .here rfl (by simp)) (by decide) (by omega) (by omega) (fun b39 => ?_)) rfl rfl
   refine i_mv rfl rfl rfl (i_nil (then_n (r_items (i_mv rfl rfl rfl (i_mv rfl rfl rfl ?_)))))
   refine i_op (a_add rfl rfl (by decide) ?_) rfl rfl
   refine i_mv rfl rfl rfl (i_nil (block_n (then_n ?_)))
   refine r_loop (fun j e A => ∃ (i b : Nat) (G : List (Nat × Nat)), e = [(0, .slice a l.length cap), (4, .int .i64 (i : Int)), (3, .slice (some ⟨b, 0, none⟩) G.length OPEN)] ∧ A = [.row b 215 true (flat2 G)] ∧ j = l.length - i ∧ i ≤ l.length ∧ grs l 0 = G ++ grs l i ∧ G.length ≤ i) 160 0 281474976710656 ?_ (j := _) (env2 := _) (A2 := _) ?_ ?_ ?_ ?_ ⟨1, b39, [(0, 1)], rfl, rfl, rfl, by omega, (gr_step (G := []) (i := 0) rfl (by omega) (by first | exact many_two (by omega) (by assumption) | exact many_one (by omega) | exact many_one2 (by assumption) | exact many_three (by omega) (by assumption) | exact many_one3 (by assumption))), (by simp)⟩
   rotate_left
   ·omega
   ·omega
   ·exact (Less.cons rfl (Less.cons rfl (Less.cons rfl Less.nil)))
   ·exact (.cons_cons _ (.cons _ .slnil))
   rintro n hn j _ _ ⟨i, b, G, rfl, rfl, rfl, hi, hG, hGl⟩
   have z0 := hp.lo (i)
   have z1 := hp.lo (i + 1)
   have z2 := hp.lo (i + 2)
   have r0 : i + 1 < l.length → l.getD (i) 0 < l.getD (i + 1) 0 := fun h => hp.rise _ h
   have r1 : i + 2 < l.length → l.getD (i + 1) 0 < l.getD (i + 2) 0 := fun h => hp.rise _ h
   have hm9 := hp.hm
   have h29 := hp.h2
   refine r_seq (r_seq (r_items (i_mv rfl rfl rfl ?_)))
   refine i_op (a_add rfl rfl (by omega) ?_) rfl rfl
   refine i_mv rfl rfl rfl ?_
   refine i_op (a_lenx rfl hl.spot ?_) rfl rfl
   refine i_op (a_lss rfl rfl (fun h40 => ?_) (fun h40 => ?_)) rfl rfl
   ·refine i_nil (then_n (r_cond_t rfl (r_skip (then_n (r_block (r_seq (r_items (i_mv rfl rfl rfl (i_nil (then_n (r_seq (r_seq (r_items (i_mv rfl rfl rfl ?_))))))))))))))
    refine i_op (a_add rfl rfl (by omega) ?_) rfl rfl
    refine i_mv rfl rfl rfl ?_
    refine i_op (a_lenx rfl hl.spot ?_) rfl rfl
    refine i_op (a_lss rfl rfl (fun h41 => ?_) (fun h41 => ?_)) rfl rfl
    ·refine i_mv rfl rfl rfl (i_mv rfl rfl rfl (i_mv rfl rfl rfl ?_))
     refine i_op (a_add rfl rfl (by omega) ?_) rfl rfl
     refine i_op (a_iaI (j := i + 1) hl rfl rfl (by omega) (by simp) (by omega) (fun _ _ a42 => ?_)) rfl rfl
     refine i_op (a_ldr rfl (hl.at a42 (by omega)) ?_) rfl rfl
     refine i_mv rfl rfl rfl (i_mv rfl rfl rfl ?_)
     refine i_op (a_iaI (j := i) hl rfl rfl (by omega) (by simp) (by omega) (fun _ _ a43 => ?_)) rfl rfl
     refine i_op (a_ldr rfl (hl.at a43 (by omega)) ?_) rfl rfl
     refine i_op (a_sub rfl rfl (by omega) ?_) rfl rfl
     refine i_mv rfl rfl rfl (i_mv rfl rfl rfl ?_)
     refine i_op (a_add rfl rfl (by omega) ?_) rfl rfl
     refine i_op (a_iaI (j := i + 2) hl rfl rfl (by omega) (by simp) (by omega) (fun _ _ a44 => ?_)) rfl rfl
     refine i_op (a_ldr rfl (hl.at a44 (by omega)) ?_) rfl rfl
     refine i_mv rfl rfl rfl (i_mv rfl rfl rfl ?_)
     refine i_op (a_add rfl rfl (by omega) ?_) rfl rfl
     refine i_op (a_iaI (j := i + 1) hl rfl rfl (by omega) (by simp) (by omega) (fun _ _ a45 => ?_)) rfl rfl
     refine i_op (a_ldr rfl (hl.at a45 (by omega)) ?_) rfl rfl
     refine i_op (a_sub rfl rfl (by omega) ?_) rfl rfl
     refine i_op (a_callV rfl rfl (fun s1 h1 => times_s _ _ _ s1 h1.wf (by omega) (by omega)) ?_) rfl rfl
     refine i_op (a_gtr rfl rfl (fun h46 => ?_) (fun h46 => ?_)) rfl rfl
     ·refine i_op (a_pick_t rfl rfl rfl ?_) rfl rfl
      refine i_nil (then_n (r_cond_t rfl (r_items (i_mv rfl rfl rfl (i_nil (then_n (r_seq (r_items (i_mv rfl rfl rfl (i_mv rfl rfl rfl (i_mv rfl rfl rfl ?_)))))))))))
      refine i_op (a_build rfl rfl ?_) rfl rfl
      refine i_op (a_lit rfl rfl rfl (fun b47 => ?_)) rfl rfl
      refine i_op (a_app rfl rfl (Src.own .here rfl (by simp)) (.next .here) (by rw [flat2_len]) (.inl ⟨rfl, rfl⟩) (by decide) (by omega) (by omega) (fun b48 => ?_)) rfl rfl
      refine i_mv rfl rfl rfl (i_nil (then_n (r_items (i_mv rfl rfl rfl (i_mv rfl rfl rfl ?_)))))
      refine i_op (a_add rfl rfl (by omega) ?_) rfl rfl
      refine i_mv rfl rfl rfl (i_nil (block_n (then_n ?_)))
      exact ⟨rfl, _, _, _, (show l.length - (i + 2) < l.length - i by omega), (lc 0 rfl (lc 4 rfl (lc 3 rfl Less.nil))), (.cons_cons _ (.cons _ .slnil)), ⟨i + 2, b48, G ++ [(i, 2)], (by simp), (by rw [flat2_app]; rfl), rfl, by omega, (gr_step hG (by omega) (by first | exact many_two (by omega) (by assumption) | exact many_one (by omega) | exact many_one2 (by assumption) | exact many_three (by omega) (by assumption) | exact many_one3 (by assumption))), (by simp; omega)⟩⟩
     ·refine i_op (a_pick_t rfl rfl rfl ?_) rfl rfl
      refine i_nil (then_n (r_cond_f rfl (r_skip (then_n (r_seq (r_items (i_mv rfl rfl rfl (i_mv rfl rfl rfl (i_mv rfl rfl rfl ?_)))))))))
      refine i_op (a_build rfl rfl ?_) rfl rfl
      refine i_op (a_lit rfl rfl rfl (fun b49 => ?_)) rfl rfl
      refine i_op (a_app rfl rfl (Src.own .here rfl (by simp)) (.next .here) (by rw [flat2_len]) (.inl ⟨rfl, rfl⟩) (by decide) (by omega) (by omega) (fun b50 => ?_)) rfl rfl
      refine i_mv rfl rfl rfl (i_nil (then_n (r_items (i_mv rfl rfl rfl (i_mv rfl rfl rfl ?_)))))
      refine i_op (a_add rfl rfl (by omega) ?_) rfl rfl
      refine i_mv rfl rfl rfl (i_nil (block_n (then_n ?_)))
      exact ⟨rfl, _, _, _, (show l.length - (i + 1) < l.length - i by omega), (lc 0 rfl (lc 4 rfl (lc 3 rfl Less.nil))), (.cons_cons _ (.cons _ .slnil)), ⟨i + 1, b50, G ++ [(i, 1)], (by simp), (by rw [flat2_app]; rfl), rfl, by omega, (gr_step hG (by omega) (by first | exact many_two (by omega) (by assumption) | exact many_one (by omega) | exact many_one2 (by assumption) | exact many_three (by omega) (by assumption) | exact many_one3 (by assumption))), (by simp; omega)⟩⟩
    ·refine i_mv rfl rfl rfl (i_no rfl rfl (i_no rfl rfl (i_no rfl rfl (i_no rfl rfl (i_no rfl rfl (i_no rfl rfl (i_no rfl rfl (i_no rfl rfl (i_no rfl rfl (i_no rfl rfl (i_no rfl rfl (i_no rfl rfl (i_no rfl rfl (i_no rfl rfl (i_no rfl rfl (i_no rfl rfl (i_no rfl rfl (i_no rfl rfl (i_no rfl rfl (i_no rfl rfl (i_no rfl rfl (i_no rfl rfl (i_no rfl rfl ?_)))))))))))))))))))))))
     refine i_op (a_pick_f rfl rfl rfl ?_) rfl rfl
     refine i_nil (then_n (r_cond_f rfl (r_skip (then_n (r_seq (r_items (i_mv rfl rfl rfl (i_mv rfl rfl rfl (i_mv rfl rfl rfl ?_)))))))))
     refine i_op (a_build rfl rfl ?_) rfl rfl
     refine i_op (a_lit rfl rfl rfl (fun b51 => ?_)) rfl rfl
     refine i_op (a_app rfl rfl (Src.own .here rfl (by simp)) (.next .here) (by rw [flat2_len]) (.inl ⟨rfl, rfl⟩) (by decide) (by omega) (by omega) (fun b52 => ?_)) rfl rfl
     refine i_mv rfl rfl rfl (i_nil (then_n (r_items (i_mv rfl rfl rfl (i_mv rfl rfl rfl ?_)))))
     refine i_op (a_add rfl rfl (by omega) ?_) rfl rfl
     refine i_mv rfl rfl rfl (i_nil (block_n (then_n ?_)))
     exact ⟨rfl, _, _, _, (show l.length - (i + 1) < l.length - i by omega), (lc 0 rfl (lc 4 rfl (lc 3 rfl Less.nil))), (.cons_cons _ (.cons _ .slnil)), ⟨i + 1, b52, G ++ [(i, 1)], (by simp), (by rw [flat2_app]; rfl), rfl, by omega, (gr_step hG (by omega) (by first | exact many_two (by omega) (by assumption) | exact many_one (by omega) | exact many_one2 (by assumption) | exact many_three (by omega) (by assumption) | exact many_one3 (by assumption))), (by simp; omega)⟩⟩
   ·refine i_nil (then_n (r_cond_f rfl (r_exit (then_e (then_e (block_hit (then_n (r_seq (r_items (i_mv rfl rfl rfl (i_mv rfl rfl rfl (i_nil (then_n (r_ret ?_))))))))))))))
    first
     | exact end1A rfl (List.Sublist.refl _) ⟨b, by rw [gr_end hG (by omega)], by rw [gr_end hG (by omega)]⟩
     | (exfalso; omega)
 ·refine i_nil (then_n (r_cond_f rfl (r_exit (then_e (then_e (block_hit (then_n (r_seq (r_items (i_mv rfl rfl rfl (i_mv rfl rfl rfl (i_nil (then_n (r_ret ?_))))))))))))))
  first
   | exact end1A rfl (List.Sublist.refl _) ⟨_, by rw [gr_end hG (by omega)], by rw [gr_end hG (by omega)]⟩
   | (exfalso; omega)
end
end Ev
end Go.Proofs.YtfhfjcfhanmbiaaGreat
