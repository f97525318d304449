import Derived.Test.YtonbhokaeodmdaaGreatZb04
set_option linter.unusedVariables false
set_option linter.unusedSimpArgs false
/- Contracts: plans, ratios. -/
namespace Go.Proofs.YtonbhokaeodmdaaGreat
open Go Go.RowKit
namespace Ev
theorem in_mono {lo hi hi2 : Int} (h : hi ≤ hi2) {l : List Int} (hi' : inB lo hi l = true) : inB lo hi2 l = true := by
  unfold inB at *
  rw [List.all_eq_true] at *
  intro x hx
  have := hi' x hx
  simp at this ⊢
  omega
def planB (l1 l2 : List Int) : Bool := plcB 9 100000 l1 && plcB 7 15000 l2
theorem plan_no1 {l1 l2 : List Int} (h : plcB 9 100000 l1 = false) : planB l1 l2 = false := by unfold planB; rw [h]; rfl
theorem plan_no2 {l1 l2 : List Int} (h : plcB 9 100000 l2 = false) : planB l1 l2 = false := by
  unfold planB
  rw [Bool.and_eq_false_iff]
  refine .inr ?_
  cases hb : plcB 7 15000 l2 with
  | false => rfl
  | true =>
    unfold plcB at h hb
    rw [Bool.and_eq_true, Bool.and_eq_true] at hb
    obtain ⟨⟨h1, h2⟩, h3⟩ := hb
    have h1 := of_decide_eq_true h1
    rw [decide_eq_true (by omega), in_mono (by decide) h2, h3] at h
    exact h
theorem plan_no3 {l1 l2 : List Int} (h : ¬ (l2.length : Int) ≤ 7) : planB l1 l2 = false := by
  unfold planB; rw [plc_no1 (m := 7) (by omega)]; simp
theorem plan_no4 {l1 l2 : List Int} (h : inB 0 15000 l2 = false) : planB l1 l2 = false := by
  unfold planB; rw [plc_no2 (hi := 15000) h]; simp
theorem plan_yes {l1 l2 : List Int} (h : plcB 9 100000 l1 = true) (h2 : plcB 9 100000 l2 = true) (h3 : (l2.length : Int) ≤ 7) (h4 : inB 0 15000 l2 = true) : planB l1 l2 = true := by
  unfold planB
  rw [h]
  unfold plcB at h2 ⊢
  rw [Bool.and_eq_true, Bool.and_eq_true] at h2
  obtain ⟨⟨h1, _⟩, h5⟩ := h2
  have h1 := of_decide_eq_true h1
  rw [decide_eq_true (by omega), h4, h5]; rfl
def rat (a b : Int) : Int := if max a b = 1 * min a b then 1 else if max a b = 2 * min a b then 2 else if max a b = 3 * min a b then 3 else 0
theorem rat_cases (a b : Int) : rat a b = 0 ∨ rat a b = 1 ∨ rat a b = 2 ∨ rat a b = 3 := by
  unfold rat; (repeat' split) <;> decide

section
variable {X : FuncId → List Value → St → (Value → St → Bool) → Bool}
theorem checkPlan_s (n : Nat) (a1 a2 : Option Addr) (c1 c2 : Nat) (l1 l2 : List Int) (s : St) (hs : Wf s) (hn : 844424930131968 ≤ n) (hl1 : IntsE s a1 l1) (hl2 : IntsE s a2 l2) : Spec Tryz.prog (tabK tabw) X (n + 300) 105 [.slice a1 l1.length c1, .slice a2 l2.length c2] s (fun v A => v = .int .i64 (if planB l1 l2 = true then 0 else 12) ∧ A = []) := by
 refine enter bw105_at rfl hs ?_
 unfold bw105
 have hlen1 := hl1.len
 have hlen2 := hl2.len
 refine rS (kM rfl rfl (i_nil (rQ (rS (kM rfl rfl (kO rfl (a_callE rfl rfl (fun s1 h1 => CheckPlaces_s _ _ _ _ s1 h1.wf (by omega) (hl1.ext hs h1.2.1)) (fun h1 => ?_) (fun h1 => ?_))))))))
 ·refine kM rfl rfl (i_nil (rS (kM rfl rfl (kO rfl (a_neq rfl rfl (fun h => absurd h (by decide)) (fun _ => (i_nil (r_cond_f rfl (r_skip (then_n (rQ (rS (kM rfl rfl (kO rfl (a_callE rfl rfl (fun s1 h1 => CheckPlaces_s _ _ _ _ s1 h1.wf (by omega) (hl2.ext hs h1.2.1)) (fun h3 => ?_) (fun h3 => ?_))))))))))))))))
  ·refine kM rfl rfl (i_nil (rS (kM rfl rfl (kO rfl (a_neq rfl rfl (fun h => absurd h (by decide)) (fun _ => (i_nil (r_cond_f rfl (r_skip (then_n (rQ (rS (kM rfl rfl (kO rfl (a_lenx rfl hl2.spot (kO rfl (a_gtr rfl rfl (fun h5 => ?_) (fun h5 => ?_))))))))))))))))))
   ·refine kM rfl rfl (i_no rfl rfl (i_no rfl rfl (i_no rfl rfl (kO rfl (a_pick_t rfl rfl rfl (i_nil (r_cond_t rfl (rS (kM rfl rfl (i_nil (r_ret (then_r (end1 rfl ⟨congrArg (Value.int .i64) ?_, rfl⟩)))))))))))))
    first
     | (rw [plan_no1 (by simpa using (by assumption : ¬ plcB 9 100000 l1 = true))]; rfl)
     | (rw [plan_no2 (by simpa using (by assumption : ¬ plcB 9 100000 l2 = true))]; rfl)
     | (rw [plan_no3 (by omega)]; rfl)
     | (rw [plan_no4 (by assumption)]; rfl)
     | (rw [plan_yes (by assumption) (by assumption) (by omega) (by assumption)]; rfl)
   ·refine kM rfl rfl (kG rfl rfl (a_mov rfl (kG rfl rfl (a_callb rfl rfl (fun s1 h1 => within_s _ _ _ _ _ _ s1 h1.wf (by omega) (hl2.ext hs h1.2.1)) (fun h6 => ?_) (fun h6 => ?_)))))
    ·refine kG rfl rfl (a_not rfl (kO rfl (a_pick_f rfl rfl rfl (i_nil (r_cond_f rfl (r_skip (then_n (rS (kM rfl rfl (i_nil (r_ret (end1 rfl ⟨congrArg (Value.int .i64) ?_, rfl⟩))))))))))))
     first
      | (rw [plan_no1 (by simpa using (by assumption : ¬ plcB 9 100000 l1 = true))]; rfl)
      | (rw [plan_no2 (by simpa using (by assumption : ¬ plcB 9 100000 l2 = true))]; rfl)
      | (rw [plan_no3 (by omega)]; rfl)
      | (rw [plan_no4 (by assumption)]; rfl)
      | (rw [plan_yes (by assumption) (by assumption) (by omega) (by assumption)]; rfl)
    ·refine kG rfl rfl (a_not rfl (kO rfl (a_pick_f rfl rfl rfl (i_nil (r_cond_t rfl (rS (kM rfl rfl (i_nil (r_ret (then_r (end1 rfl ⟨congrArg (Value.int .i64) ?_, rfl⟩)))))))))))
     first
      | (rw [plan_no1 (by simpa using (by assumption : ¬ plcB 9 100000 l1 = true))]; rfl)
      | (rw [plan_no2 (by simpa using (by assumption : ¬ plcB 9 100000 l2 = true))]; rfl)
      | (rw [plan_no3 (by omega)]; rfl)
      | (rw [plan_no4 (by assumption)]; rfl)
      | (rw [plan_yes (by assumption) (by assumption) (by omega) (by assumption)]; rfl)
  ·refine kM rfl rfl (i_nil (rS (kM rfl rfl (kO rfl (a_neq rfl rfl (fun _ => (i_nil (r_cond_t rfl (rS (kM rfl rfl (kM rfl rfl (i_nil (r_ret (then_r (end1 rfl ⟨congrArg (Value.int .i64) ?_, rfl⟩)))))))))) (fun h => absurd h (by decide)))))))
   first
    | (rw [plan_no1 (by simpa using (by assumption : ¬ plcB 9 100000 l1 = true))]; rfl)
    | (rw [plan_no2 (by simpa using (by assumption : ¬ plcB 9 100000 l2 = true))]; rfl)
    | (rw [plan_no3 (by omega)]; rfl)
    | (rw [plan_no4 (by assumption)]; rfl)
    | (rw [plan_yes (by assumption) (by assumption) (by omega) (by assumption)]; rfl)
 ·refine kM rfl rfl (i_nil (rS (kM rfl rfl (kO rfl (a_neq rfl rfl (fun _ => (i_nil (r_cond_t rfl (rS (kM rfl rfl (kM rfl rfl (i_nil (r_ret (then_r (end1 rfl ⟨congrArg (Value.int .i64) ?_, rfl⟩)))))))))) (fun h => absurd h (by decide)))))))
  first
   | (rw [plan_no1 (by simpa using (by assumption : ¬ plcB 9 100000 l1 = true))]; rfl)
   | (rw [plan_no2 (by simpa using (by assumption : ¬ plcB 9 100000 l2 = true))]; rfl)
   | (rw [plan_no3 (by omega)]; rfl)
   | (rw [plan_no4 (by assumption)]; rfl)
   | (rw [plan_yes (by assumption) (by assumption) (by omega) (by assumption)]; rfl)

theorem ratio_s (n : Nat) (a b : Int) (s : St) (hs : Wf s) (ha : 0 < a ∧ a ≤ 100000) (hb : 0 < b ∧ b ≤ 100000) : Spec Tryz.prog (tabK tabw) X (n + 100) 183 [.int .i64 a, .int .i64 b] s (fun v A => v = .int .i64 (rat a b) ∧ A = []) := by
 refine enter bw183_at rfl hs ?_
 unfold bw183
 refine rS (kM rfl rfl (i_nil (rS (kM rfl rfl (kM rfl rfl (kO rfl (a_min rfl (kM rfl rfl (kM rfl rfl (kO rfl (a_max rfl (kM rfl rfl (kM rfl rfl (i_nil (rQ (rS (kM rfl rfl (i_nil (r_block (r_unroll (rQ (rS (kM rfl rfl (kO rfl (a_leq rfl rfl (fun _ => (i_nil ?_)) (fun h => absurd h (by decide)))))))))))))))))))))))))))
 refine r_cond_t rfl (r_skip (then_n (rQ (r_block (rS (kM rfl rfl (kM rfl rfl (kM rfl rfl (kO rfl (a_mul rfl rfl (by omega) (kO rfl (a_eql rfl rfl (fun h2 => ?_) (fun h2 => ?_)))))))))))))
 ·refine i_nil (r_cond_t rfl (rS (kM rfl rfl (kM rfl rfl (i_nil (r_ret (block_r (then_r (then_r (block_r (then_r (end1 rfl ⟨congrArg (Value.int .i64) ?_, rfl⟩))))))))))))
  unfold rat
  first
   | exact (if_pos (by omega)).symm
   | (rw [if_neg (by omega)]; exact (if_pos (by omega)).symm)
   | (rw [if_neg (by omega), if_neg (by omega)]; exact (if_pos (by omega)).symm)
   | (rw [if_neg (by omega), if_neg (by omega)]; exact (if_neg (by omega)).symm)
 ·refine i_nil (r_cond_f rfl (r_skip (block_n (then_n (rI (kM rfl rfl (kO rfl (a_add rfl rfl (by decide) (kM rfl rfl (i_nil (then_n (r_unroll (rQ (rS (kM rfl rfl (kO rfl (a_leq rfl rfl (fun _ => (i_nil (r_cond_t rfl (r_skip (then_n (rQ (r_block (rS (kM rfl rfl ?_))))))))) (fun h => absurd h (by decide)))))))))))))))))))
  refine kM rfl rfl (kM rfl rfl (kO rfl (a_mul rfl rfl (by omega) (kO rfl (a_eql rfl rfl (fun h4 => ?_) (fun h4 => ?_))))))
  ·refine i_nil (r_cond_t rfl (rS (kM rfl rfl (kM rfl rfl (i_nil (r_ret (block_r (then_r (then_r (block_r (then_r (end1 rfl ⟨congrArg (Value.int .i64) ?_, rfl⟩))))))))))))
   unfold rat
   first
    | exact (if_pos (by omega)).symm
    | (rw [if_neg (by omega)]; exact (if_pos (by omega)).symm)
    | (rw [if_neg (by omega), if_neg (by omega)]; exact (if_pos (by omega)).symm)
    | (rw [if_neg (by omega), if_neg (by omega)]; exact (if_neg (by omega)).symm)
  ·refine i_nil (r_cond_f rfl (r_skip (block_n (then_n (rI (kM rfl rfl (kO rfl (a_add rfl rfl (by decide) (kM rfl rfl (i_nil (then_n (r_unroll (rQ (rS (kM rfl rfl (kO rfl (a_leq rfl rfl (fun _ => (i_nil (r_cond_t rfl (r_skip (then_n (rQ (r_block (rS (kM rfl rfl ?_))))))))) (fun h => absurd h (by decide)))))))))))))))))))
   refine kM rfl rfl (kM rfl rfl (kO rfl (a_mul rfl rfl (by omega) (kO rfl (a_eql rfl rfl (fun h6 => ?_) (fun h6 => ?_))))))
   ·refine i_nil (r_cond_t rfl (rS (kM rfl rfl (kM rfl rfl (i_nil (r_ret (block_r (then_r (then_r (block_r (then_r (end1 rfl ⟨congrArg (Value.int .i64) ?_, rfl⟩))))))))))))
    unfold rat
    first
     | exact (if_pos (by omega)).symm
     | (rw [if_neg (by omega)]; exact (if_pos (by omega)).symm)
     | (rw [if_neg (by omega), if_neg (by omega)]; exact (if_pos (by omega)).symm)
     | (rw [if_neg (by omega), if_neg (by omega)]; exact (if_neg (by omega)).symm)
   ·refine i_nil (r_cond_f rfl (r_skip (block_n (then_n (rI (kM rfl rfl (kO rfl (a_add rfl rfl (by decide) (kM rfl rfl (i_nil (then_n (r_unroll (rQ (rS (kM rfl rfl (kO rfl (a_leq rfl rfl (fun h => absurd h (by decide)) (fun _ => (i_nil (r_cond_f rfl (r_exit (then_e (then_e (block_hit (then_n (rS ?_))))))))))))))))))))))))))
    refine kM rfl rfl (i_nil (r_ret (end1 rfl ⟨congrArg (Value.int .i64) ?_, rfl⟩)))
    unfold rat
    first
     | exact (if_pos (by omega)).symm
     | (rw [if_neg (by omega)]; exact (if_pos (by omega)).symm)
     | (rw [if_neg (by omega), if_neg (by omega)]; exact (if_pos (by omega)).symm)
     | (rw [if_neg (by omega), if_neg (by omega)]; exact (if_neg (by omega)).symm)

end
end Ev
end Go.Proofs.YtonbhokaeodmdaaGreat

/- Contracts: groups. -/
namespace Go.Proofs.YtonbhokaeodmdaaGreat
open Go Go.RowKit
namespace Ev
def many (l : List Int) (i : Nat) : Nat := if i + 2 < l.length ∧ rat (l.getD (i + 1) 0 - l.getD i 0) (l.getD (i + 2) 0 - l.getD (i + 1) 0) ≠ 0 then 2 else 1
theorem many_two {l : List Int} {i : Nat} (h : i + 2 < l.length) (h2 : ¬ rat (l.getD (i + 1) 0 - l.getD i 0) (l.getD (i + 2) 0 - l.getD (i + 1) 0) = 0) : many l i = 2 := if_pos ⟨h, h2⟩
theorem many_one {l : List Int} {i : Nat} (h : ¬ i + 2 < l.length) : many l i = 1 := if_neg (fun q => h q.1)
theorem many_one2 {l : List Int} {i : Nat} (h : rat (l.getD (i + 1) 0 - l.getD i 0) (l.getD (i + 2) 0 - l.getD (i + 1) 0) = 0) : many l i = 1 := if_neg (fun q => q.2 h)
theorem many_three {l : List Int} {i : Nat} (h : i + 2 < l.length) (h2 : 0 < rat (l.getD (i + 1) 0 - l.getD i 0) (l.getD (i + 2) 0 - l.getD (i + 1) 0)) : many l i = 2 := many_two h (by omega)
theorem many_one3 {l : List Int} {i : Nat} (h : ¬ 0 < rat (l.getD (i + 1) 0 - l.getD i 0) (l.getD (i + 2) 0 - l.getD (i + 1) 0)) : many l i = 1 := many_one2 (by have := rat_cases (l.getD (i + 1) 0 - l.getD i 0) (l.getD (i + 2) 0 - l.getD (i + 1) 0); omega)
theorem many_cases (l : List Int) (i : Nat) : many l i = 1 ∨ many l i = 2 := by unfold many; split <;> simp
def grs (l : List Int) (i : Nat) : List (Nat × Nat) := if h : i + 1 < l.length then (i, many l i) :: grs l (i + many l i) else []
termination_by l.length - i
decreasing_by have := many_cases l i; omega
theorem gr_eq {l : List Int} {i : Nat} (hi : i + 1 < l.length) : grs l i = (i, many l i) :: grs l (i + many l i) := by rw [grs, dif_pos hi]
theorem gr_nil {l : List Int} {i : Nat} (hi : l.length ≤ i + 1) : grs l i = [] := by rw [grs, dif_neg (by omega)]
theorem gr_step {l : List Int} {G : List (Nat × Nat)} {i m : Nat} (h : grs l 0 = G ++ grs l i) (hi : i + 1 < l.length) (hm : many l i = m) : grs l 0 = (G ++ [(i, m)]) ++ grs l (i + m) := by
  rw [h, gr_eq hi, hm]; simp
theorem gr_end {l : List Int} {G : List (Nat × Nat)} {i : Nat} (h : grs l 0 = G ++ grs l i) (hi : l.length ≤ i + 1) : grs l 0 = G := by
  rw [h, gr_nil hi]; simp
def flat2 (G : List (Nat × Nat)) : List Value := G.flatMap fun p => [.int .i64 (p.1 : Int), .int .i64 (p.2 : Int)]
theorem flat2_len {G : List (Nat × Nat)} : (flat2 G).length = G.length * 2 := by
  induction G with
  | nil => rfl
  | cons p G ih => simp [flat2] at ih ⊢; omega
theorem flat2_app {G H : List (Nat × Nat)} : flat2 (G ++ H) = flat2 G ++ flat2 H := by simp [flat2]
theorem flat2_get {G : List (Nat × Nat)} : ∀ {k : Nat} {p : Nat × Nat}, G[k]? = some p → (flat2 G)[k * 2]? = some (.int .i64 (p.1 : Int)) ∧ (flat2 G)[k * 2 + 1]? = some (.int .i64 (p.2 : Int)) := by
  induction G with
  | nil => intro k p h; simp at h
  | cons q G ih =>
    intro k p h
    cases k with
    | zero => simp at h; subst h; exact ⟨rfl, rfl⟩
    | succ k =>
      have := ih (k := k) (p := p) (by simpa using h)
      rw [show (k + 1) * 2 = k * 2 + 2 by omega]
      exact this
/-- Groups lie within the positions. -/
theorem gr_in {l : List Int} : ∀ (f i : Nat), l.length ≤ i + f → ∀ p ∈ grs l i, p.1 + p.2 < l.length ∧ many l p.1 = p.2
  | 0, i, hf, p, hp => by rw [grs, dif_neg (by omega)] at hp; cases hp
  | f + 1, i, hf, p, hp => by
    rw [grs] at hp
    by_cases hi : i + 1 < l.length
    · rw [dif_pos hi] at hp
      have hm := many_cases l i
      rcases List.mem_cons.1 hp with rfl | hp
      · refine ⟨?_, rfl⟩
        show i + many l i < l.length
        unfold many
        split <;> omega
      · exact gr_in f (i + many l i) (by omega) p hp
    · rw [dif_neg hi] at hp; cases hp
theorem gr_len {l : List Int} : ∀ (f i : Nat), l.length ≤ i + f → (grs l i).length ≤ f
  | 0, i, hf => by rw [grs, dif_neg (by omega)]; simp
  | f + 1, i, hf => by
    rw [grs]
    by_cases hi : i + 1 < l.length
    · rw [dif_pos hi]
      have hm := many_cases l i
      have := gr_len (l := l) f (i + many l i) (by omega)
      simp; omega
    · rw [dif_neg hi]; simp

section
variable {X : FuncId → List Value → St → (Value → St → Bool) → Bool}
theorem groupsOf_s (n : Nat) (a : Option Addr) (cap : Nat) (l : List Int) (s : St) (hs : Wf s) (hn : 281474976710656 ≤ n) (hl : IntsE s a l) (hp : Plc 9 100000 l) : Spec Tryz.prog (tabK tabw) X (n + 300) 167 [.slice a l.length cap] s (fun v A => ∃ b, v = .slice (some ⟨b, 0, none⟩) (grs l 0).length OPEN ∧ A = [.row b 198 true (flat2 (grs l 0))]) := by
 refine enter bw167_at rfl hs ?_
 unfold bw167
 have hlen := hl.len
 have z0 := hp.lo (0)
 have z1 := hp.lo (1)
 have z2 := hp.lo (2)
 have r0 : 1 < l.length → l.getD (0) 0 < l.getD (1) 0 := fun h => hp.rise _ h
 have r1 : 2 < l.length → l.getD (1) 0 < l.getD (2) 0 := fun h => hp.rise _ h
 have hm9 := hp.hm
 have h29 := hp.h2
 refine rS (kM rfl rfl (i_nil (rS (kM rfl rfl (i_nil (rQ (rS (kM rfl rfl (i_nil (r_block (r_unroll (rQ (rS (kM rfl rfl (kO rfl (a_add rfl rfl (by decide) (kM rfl rfl (kO rfl (a_lenx rfl hl.spot (kO rfl (a_lss rfl rfl (fun h1 => ?_) (fun h1 => ?_))))))))))))))))))))))
 ·refine i_nil (r_cond_t rfl (r_skip (then_n (r_block (rS (kM rfl rfl (i_nil (rQ (rS (kM rfl rfl (kO rfl (a_add rfl rfl (by decide) (kM rfl rfl (kO rfl (a_lenx rfl hl.spot (kO rfl (a_lss rfl rfl (fun h2 => ?_) (fun h2 => ?_))))))))))))))))))
  ·refine kM rfl rfl (kG rfl rfl (a_mov rfl (kG rfl rfl (a_mov rfl (kG rfl rfl (a_add rfl rfl (by decide) (kG rfl rfl (a_iaI (j := 1) hl rfl rfl (by omega) (by simp) (by omega) (fun _ _ a3 => (kG rfl rfl (a_ldr rfl (hl.at a3 (by omega)) (kG rfl rfl (a_mov rfl (kG rfl rfl (a_mov rfl (kG rfl rfl (a_iaI (j := 0) hl rfl rfl (by omega) (by simp) (by omega) (fun _ _ a4 => (kG rfl rfl (a_ldr rfl (hl.at a4 (by omega)) (kG rfl rfl (a_sub rfl rfl (by omega) (kG rfl rfl (a_mov rfl (kG rfl rfl (a_mov rfl (kG rfl rfl (a_add rfl rfl (by decide) (kG rfl rfl (a_iaI (j := 2) hl rfl rfl (by omega) (by simp) (by omega) (fun _ _ a5 => (kG rfl rfl (a_ldr rfl (hl.at a5 (by omega)) (kG rfl rfl (a_mov rfl (kG rfl rfl (a_mov rfl (kG rfl rfl (a_add rfl rfl (by decide) (kG rfl rfl (a_iaI (j := 1) hl rfl rfl (by omega) (by simp) (by omega) (fun _ _ a6 => (kG rfl rfl (a_ldr rfl (hl.at a6 (by omega)) (kG rfl rfl (a_sub rfl rfl (by omega) (kG rfl rfl (a_callV rfl rfl (fun s1 h1 => ratio_s _ _ _ s1 h1.wf (by omega) (by omega)) (kG rfl rfl (a_neq rfl rfl (fun h7 => ?_) (fun h7 => ?_)))))))))))))))))))))))))))))))))))))))))))))))))))
   ·refine kO rfl (a_pick_t rfl rfl rfl (i_nil (r_cond_t rfl (rI (kM rfl rfl (i_nil (then_n (rS (kM rfl rfl (kM rfl rfl (kM rfl rfl (kO rfl (a_build rfl rfl (kO rfl (a_lit rfl rfl rfl (fun b8 => (kO rfl (a_appn rfl rfl (Src.own .here rfl (by simp)) (by decide) (by omega) (by omega) (fun b9 => (kM rfl rfl (i_nil (rI (kM rfl rfl (kM rfl rfl (kO rfl (a_add rfl rfl (by decide) (kM rfl rfl (i_nil (block_n (then_n ?_))))))))))))))))))))))))))))))
    refine r_loop (fun j e A => ∃ (i b : Nat) (G : List (Nat × Nat)), e = [(0, .slice a l.length cap), (4, .int .i64 (i : Int)), (3, .slice (some ⟨b, 0, none⟩) G.length OPEN)] ∧ A = (.row b 198 true (flat2 G) :: []) ∧ j = l.length - i ∧ i ≤ l.length ∧ grs l 0 = G ++ grs l i ∧ G.length ≤ i) 160 0 281474976710656 ?_ (j := _) (env2 := _) (A2 := _) ?_ ?_ ?_ ?_ ⟨2, b9, [(0, 2)], rfl, rfl, rfl, by omega, (gr_step (G := []) (i := 0) rfl (by omega) (by first | exact many_two (by omega) (by assumption) | exact many_one (by omega) | exact many_one2 (by assumption) | exact many_three (by omega) (by assumption) | exact many_one3 (by assumption))), (by simp)⟩
    rotate_left
    ·omega
    ·omega
    ·exact (lc 0 rfl (lc 4 rfl (lc 3 rfl Less.nil)))
    ·exact (.cons_cons _ (.cons _ .slnil))
    rintro n hn j _ _ ⟨i, b, G, rfl, rfl, rfl, hi, hG, hGl⟩
    have z0 := hp.lo (i)
    have z1 := hp.lo (i + 1)
    have z2 := hp.lo (i + 2)
    have r0 : i + 1 < l.length → l.getD (i) 0 < l.getD (i + 1) 0 := fun h => hp.rise _ h
    have r1 : i + 2 < l.length → l.getD (i + 1) 0 < l.getD (i + 2) 0 := fun h => hp.rise _ h
    have hm9 := hp.hm
    have h29 := hp.h2
    refine rQ (rS (kM rfl rfl (kO rfl (a_add rfl rfl (by omega) (kM rfl rfl (kO rfl (a_lenx rfl hl.spot (kO rfl (a_lss rfl rfl (fun h10 => ?_) (fun h10 => ?_))))))))))
    ·refine i_nil (r_cond_t rfl (r_skip (then_n (r_block (rS (kM rfl rfl (i_nil (rQ (rS (kM rfl rfl (kO rfl (a_add rfl rfl (by omega) (kM rfl rfl (kO rfl (a_lenx rfl hl.spot (kO rfl (a_lss rfl rfl (fun h11 => ?_) (fun h11 => ?_))))))))))))))))))
     ·refine kM rfl rfl (kG rfl rfl (a_mov rfl (kG rfl rfl (a_mov rfl (kG rfl rfl (a_add rfl rfl (by omega) (kG rfl rfl (a_iaI (j := i + 1) hl rfl rfl (by omega) (by simp) (by omega) (fun _ _ a12 => (kG rfl rfl (a_ldr rfl (hl.at a12 (by omega)) (kG rfl rfl (a_mov rfl (kG rfl rfl (a_mov rfl (kG rfl rfl (a_iaI (j := i) hl rfl rfl (by omega) (by simp) (by omega) (fun _ _ a13 => (kG rfl rfl (a_ldr rfl (hl.at a13 (by omega)) (kG rfl rfl (a_sub rfl rfl (by omega) (kG rfl rfl (a_mov rfl (kG rfl rfl (a_mov rfl (kG rfl rfl (a_add rfl rfl (by omega) (kG rfl rfl (a_iaI (j := i + 2) hl rfl rfl (by omega) (by simp) (by omega) (fun _ _ a14 => (kG rfl rfl (a_ldr rfl (hl.at a14 (by omega)) (kG rfl rfl (a_mov rfl (kG rfl rfl (a_mov rfl (kG rfl rfl (a_add rfl rfl (by omega) (kG rfl rfl (a_iaI (j := i + 1) hl rfl rfl (by omega) (by simp) (by omega) (fun _ _ a15 => (kG rfl rfl (a_ldr rfl (hl.at a15 (by omega)) (kG rfl rfl (a_sub rfl rfl (by omega) (kG rfl rfl (a_callV rfl rfl (fun s1 h1 => ratio_s _ _ _ s1 h1.wf (by omega) (by omega)) (kG rfl rfl (a_neq rfl rfl (fun h16 => ?_) (fun h16 => ?_)))))))))))))))))))))))))))))))))))))))))))))))))))
      ·refine kO rfl (a_pick_t rfl rfl rfl (i_nil (r_cond_t rfl (rI (kM rfl rfl (i_nil (then_n (rS (kM rfl rfl (kM rfl rfl (kM rfl rfl (kO rfl (a_build rfl rfl (kO rfl (a_lit rfl rfl rfl (fun b17 => (kO rfl (a_app rfl rfl (Src.own .here rfl (by simp)) (.next .here) (by rw [flat2_len]) (.inl ⟨rfl, rfl⟩) (by decide) (by omega) (by omega) (fun b18 => (kM rfl rfl (i_nil (rI (kM rfl rfl (kM rfl rfl (kO rfl (a_add rfl rfl (by omega) (kM rfl rfl (i_nil (block_n (then_n ?_))))))))))))))))))))))))))))))
       exact ⟨rfl, _, _, _, (show l.length - (i + 2) < l.length - i by omega), (lc 0 rfl (lc 4 rfl (lc 3 rfl Less.nil))), (.cons_cons _ (.cons _ .slnil)), ⟨i + 2, b18, G ++ [(i, 2)], (by simp), (by rw [flat2_app]; rfl), rfl, by omega, (gr_step hG (by omega) (by first | exact many_two (by omega) (by assumption) | exact many_one (by omega) | exact many_one2 (by assumption) | exact many_three (by omega) (by assumption) | exact many_one3 (by assumption))), (by simp; omega)⟩⟩
      ·refine kO rfl (a_pick_t rfl rfl rfl (i_nil (r_cond_f rfl (r_skip (then_n (rS (kM rfl rfl (kM rfl rfl (kM rfl rfl (kO rfl (a_build rfl rfl (kO rfl (a_lit rfl rfl rfl (fun b19 => (kO rfl (a_app rfl rfl (Src.own .here rfl (by simp)) (.next .here) (by rw [flat2_len]) (.inl ⟨rfl, rfl⟩) (by decide) (by omega) (by omega) (fun b20 => (kM rfl rfl (i_nil (rI (kM rfl rfl (kM rfl rfl (kO rfl (a_add rfl rfl (by omega) (kM rfl rfl (i_nil (block_n (then_n ?_))))))))))))))))))))))))))))
       exact ⟨rfl, _, _, _, (show l.length - (i + 1) < l.length - i by omega), (lc 0 rfl (lc 4 rfl (lc 3 rfl Less.nil))), (.cons_cons _ (.cons _ .slnil)), ⟨i + 1, b20, G ++ [(i, 1)], (by simp), (by rw [flat2_app]; rfl), rfl, by omega, (gr_step hG (by omega) (by first | exact many_two (by omega) (by assumption) | exact many_one (by omega) | exact many_one2 (by assumption) | exact many_three (by omega) (by assumption) | exact many_one3 (by assumption))), (by simp; omega)⟩⟩
     ·refine kM rfl rfl (i_no rfl rfl (i_no rfl rfl (i_no rfl rfl (i_no rfl rfl (i_no rfl rfl (i_no rfl rfl (i_no rfl rfl (i_no rfl rfl (i_no rfl rfl (i_no rfl rfl (i_no rfl rfl (i_no rfl rfl (i_no rfl rfl (i_no rfl rfl (i_no rfl rfl (i_no rfl rfl (i_no rfl rfl (i_no rfl rfl (i_no rfl rfl (i_no rfl rfl (i_no rfl rfl (i_no rfl rfl (i_no rfl rfl ?_)))))))))))))))))))))))
      refine kO rfl (a_pick_f rfl rfl rfl (i_nil (r_cond_f rfl (r_skip (then_n (rS (kM rfl rfl (kM rfl rfl (kM rfl rfl (kO rfl (a_build rfl rfl (kO rfl (a_lit rfl rfl rfl (fun b21 => (kO rfl (a_app rfl rfl (Src.own .here rfl (by simp)) (.next .here) (by rw [flat2_len]) (.inl ⟨rfl, rfl⟩) (by decide) (by omega) (by omega) (fun b22 => (kM rfl rfl (i_nil (rI (kM rfl rfl (kM rfl rfl (kO rfl (a_add rfl rfl (by omega) (kM rfl rfl (i_nil (block_n (then_n ?_))))))))))))))))))))))))))))
      exact ⟨rfl, _, _, _, (show l.length - (i + 1) < l.length - i by omega), (lc 0 rfl (lc 4 rfl (lc 3 rfl Less.nil))), (.cons_cons _ (.cons _ .slnil)), ⟨i + 1, b22, G ++ [(i, 1)], (by simp), (by rw [flat2_app]; rfl), rfl, by omega, (gr_step hG (by omega) (by first | exact many_two (by omega) (by assumption) | exact many_one (by omega) | exact many_one2 (by assumption) | exact many_three (by omega) (by assumption) | exact many_one3 (by assumption))), (by simp; omega)⟩⟩
    ·refine i_nil (r_cond_f rfl (r_exit (then_e (then_e (block_hit (then_n (rS (kM rfl rfl (kM rfl rfl (i_nil (r_ret ?_)))))))))))
     first
      | exact end1A rfl (List.Sublist.refl _) ⟨b, by rw [gr_end hG (by omega)], by rw [gr_end hG (by omega)]⟩
      | (exfalso; omega)
   ·refine kO rfl (a_pick_t rfl rfl rfl (i_nil (r_cond_f rfl (r_skip (then_n (rS (kM rfl rfl (kM rfl rfl (kM rfl rfl (kO rfl (a_build rfl rfl (kO rfl (a_lit rfl rfl rfl (fun b23 => (kO rfl (a_appn rfl rfl (Src.own .here rfl (by simp)) (by decide) (by omega) (by omega) (fun b24 => (kM rfl rfl (i_nil (rI (kM rfl rfl (kM rfl rfl (kO rfl (a_add rfl rfl (by decide) (kM rfl rfl (i_nil (block_n (then_n (r_loop (fun j e A => ∃ (i b : Nat) (G : List (Nat × Nat)), e = [(0, .slice a l.length cap), (4, .int .i64 (i : Int)), (3, .slice (some ⟨b, 0, none⟩) G.length OPEN)] ∧ A = (.row b 198 true (flat2 G) :: []) ∧ j = l.length - i ∧ i ≤ l.length ∧ grs l 0 = G ++ grs l i ∧ G.length ≤ i) 160 0 281474976710656 ?_ (j := _) (env2 := _) (A2 := _) ?_ ?_ ?_ ?_ ⟨1, b24, [(0, 1)], rfl, rfl, rfl, by omega, (gr_step (G := []) (i := 0) rfl (by omega) (by first | exact many_two (by omega) (by assumption) | exact many_one (by omega) | exact many_one2 (by assumption) | exact many_three (by omega) (by assumption) | exact many_one3 (by assumption))), (by simp)⟩)))))))))))))))))))))))))))))
    rotate_left
    ·omega
    ·omega
    ·exact (lc 0 rfl (lc 4 rfl (lc 3 rfl Less.nil)))
    ·exact (.cons_cons _ (.cons _ .slnil))
    rintro n hn j _ _ ⟨i, b, G, rfl, rfl, rfl, hi, hG, hGl⟩
    have z0 := hp.lo (i)
    have z1 := hp.lo (i + 1)
    have z2 := hp.lo (i + 2)
    have r0 : i + 1 < l.length → l.getD (i) 0 < l.getD (i + 1) 0 := fun h => hp.rise _ h
    have r1 : i + 2 < l.length → l.getD (i + 1) 0 < l.getD (i + 2) 0 := fun h => hp.rise _ h
    have hm9 := hp.hm
    have h29 := hp.h2
    refine rQ (rS (kM rfl rfl (kO rfl (a_add rfl rfl (by omega) (kM rfl rfl (kO rfl (a_lenx rfl hl.spot (kO rfl (a_lss rfl rfl (fun h25 => ?_) (fun h25 => ?_))))))))))
    ·refine i_nil (r_cond_t rfl (r_skip (then_n (r_block (rS (kM rfl rfl (i_nil (rQ (rS (kM rfl rfl (kO rfl (a_add rfl rfl (by omega) (kM rfl rfl (kO rfl (a_lenx rfl hl.spot (kO rfl (a_lss rfl rfl (fun h26 => ?_) (fun h26 => ?_))))))))))))))))))
     ·refine kM rfl rfl (kG rfl rfl (a_mov rfl (kG rfl rfl (a_mov rfl (kG rfl rfl (a_add rfl rfl (by omega) (kG rfl rfl (a_iaI (j := i + 1) hl rfl rfl (by omega) (by simp) (by omega) (fun _ _ a27 => (kG rfl rfl (a_ldr rfl (hl.at a27 (by omega)) (kG rfl rfl (a_mov rfl (kG rfl rfl (a_mov rfl (kG rfl rfl (a_iaI (j := i) hl rfl rfl (by omega) (by simp) (by omega) (fun _ _ a28 => (kG rfl rfl (a_ldr rfl (hl.at a28 (by omega)) (kG rfl rfl (a_sub rfl rfl (by omega) (kG rfl rfl (a_mov rfl (kG rfl rfl (a_mov rfl (kG rfl rfl (a_add rfl rfl (by omega) (kG rfl rfl (a_iaI (j := i + 2) hl rfl rfl (by omega) (by simp) (by omega) (fun _ _ a29 => (kG rfl rfl (a_ldr rfl (hl.at a29 (by omega)) (kG rfl rfl (a_mov rfl (kG rfl rfl (a_mov rfl (kG rfl rfl (a_add rfl rfl (by omega) (kG rfl rfl (a_iaI (j := i + 1) hl rfl rfl (by omega) (by simp) (by omega) (fun _ _ a30 => (kG rfl rfl (a_ldr rfl (hl.at a30 (by omega)) (kG rfl rfl (a_sub rfl rfl (by omega) (kG rfl rfl (a_callV rfl rfl (fun s1 h1 => ratio_s _ _ _ s1 h1.wf (by omega) (by omega)) (kG rfl rfl (a_neq rfl rfl (fun h31 => ?_) (fun h31 => ?_)))))))))))))))))))))))))))))))))))))))))))))))))))
      ·refine kO rfl (a_pick_t rfl rfl rfl (i_nil (r_cond_t rfl (rI (kM rfl rfl (i_nil (then_n (rS (kM rfl rfl (kM rfl rfl (kM rfl rfl (kO rfl (a_build rfl rfl (kO rfl (a_lit rfl rfl rfl (fun b32 => (kO rfl (a_app rfl rfl (Src.own .here rfl (by simp)) (.next .here) (by rw [flat2_len]) (.inl ⟨rfl, rfl⟩) (by decide) (by omega) (by omega) (fun b33 => (kM rfl rfl (i_nil (rI (kM rfl rfl (kM rfl rfl (kO rfl (a_add rfl rfl (by omega) (kM rfl rfl (i_nil (block_n (then_n ?_))))))))))))))))))))))))))))))
       exact ⟨rfl, _, _, _, (show l.length - (i + 2) < l.length - i by omega), (lc 0 rfl (lc 4 rfl (lc 3 rfl Less.nil))), (.cons_cons _ (.cons _ .slnil)), ⟨i + 2, b33, G ++ [(i, 2)], (by simp), (by rw [flat2_app]; rfl), rfl, by omega, (gr_step hG (by omega) (by first | exact many_two (by omega) (by assumption) | exact many_one (by omega) | exact many_one2 (by assumption) | exact many_three (by omega) (by assumption) | exact many_one3 (by assumption))), (by simp; omega)⟩⟩
      ·refine kO rfl (a_pick_t rfl rfl rfl (i_nil (r_cond_f rfl (r_skip (then_n (rS (kM rfl rfl (kM rfl rfl (kM rfl rfl (kO rfl (a_build rfl rfl (kO rfl (a_lit rfl rfl rfl (fun b34 => (kO rfl (a_app rfl rfl (Src.own .here rfl (by simp)) (.next .here) (by rw [flat2_len]) (.inl ⟨rfl, rfl⟩) (by decide) (by omega) (by omega) (fun b35 => (kM rfl rfl (i_nil (rI (kM rfl rfl (kM rfl rfl (kO rfl (a_add rfl rfl (by omega) (kM rfl rfl (i_nil (block_n (then_n ?_))))))))))))))))))))))))))))
       exact ⟨rfl, _, _, _, (show l.length - (i + 1) < l.length - i by omega), (lc 0 rfl (lc 4 rfl (lc 3 rfl Less.nil))), (.cons_cons _ (.cons _ .slnil)), ⟨i + 1, b35, G ++ [(i, 1)], (by simp), (by rw [flat2_app]; rfl), rfl, by omega, (gr_step hG (by omega) (by first | exact many_two (by omega) (by assumption) | exact many_one (by omega) | exact many_one2 (by assumption) | exact many_three (by omega) (by assumption) | exact many_one3 (by assumption))), (by simp; omega)⟩⟩
     ·refine kM rfl rfl (i_no rfl rfl (i_no rfl rfl (i_no rfl rfl (i_no rfl rfl (i_no rfl rfl (i_no rfl rfl (i_no rfl rfl (i_no rfl rfl (i_no rfl rfl (i_no rfl rfl (i_no rfl rfl (i_no rfl rfl (i_no rfl rfl (i_no rfl rfl (i_no rfl rfl (i_no rfl rfl (i_no rfl rfl (i_no rfl rfl (i_no rfl rfl (i_no rfl rfl (i_no rfl rfl (i_no rfl rfl (i_no rfl rfl ?_)))))))))))))))))))))))
      refine kO rfl (a_pick_f rfl rfl rfl (i_nil (r_cond_f rfl (r_skip (then_n (rS (kM rfl rfl (kM rfl rfl (kM rfl rfl (kO rfl (a_build rfl rfl (kO rfl (a_lit rfl rfl rfl (fun b36 => (kO rfl (a_app rfl rfl (Src.own .here rfl (by simp)) (.next .here) (by rw [flat2_len]) (.inl ⟨rfl, rfl⟩) (by decide) (by omega) (by omega) (fun b37 => (kM rfl rfl (i_nil (rI (kM rfl rfl (kM rfl rfl (kO rfl (a_add rfl rfl (by omega) (kM rfl rfl (i_nil (block_n (then_n ?_))))))))))))))))))))))))))))
      exact ⟨rfl, _, _, _, (show l.length - (i + 1) < l.length - i by omega), (lc 0 rfl (lc 4 rfl (lc 3 rfl Less.nil))), (.cons_cons _ (.cons _ .slnil)), ⟨i + 1, b37, G ++ [(i, 1)], (by simp), (by rw [flat2_app]; rfl), rfl, by omega, (gr_step hG (by omega) (by first | exact many_two (by omega) (by assumption) | exact many_one (by omega) | exact many_one2 (by assumption) | exact many_three (by omega) (by assumption) | exact many_one3 (by assumption))), (by simp; omega)⟩⟩
    ·refine i_nil (r_cond_f rfl (r_exit (then_e (then_e (block_hit (then_n (rS (kM rfl rfl (kM rfl rfl (i_nil (r_ret ?_)))))))))))
     first
      | exact end1A rfl (List.Sublist.refl _) ⟨b, by rw [gr_end hG (by omega)], by rw [gr_end hG (by omega)]⟩
      | (exfalso; omega)
  ·refine kM rfl rfl (i_no rfl rfl (i_no rfl rfl (i_no rfl rfl (i_no rfl rfl (i_no rfl rfl (i_no rfl rfl (i_no rfl rfl (i_no rfl rfl (i_no rfl rfl (i_no rfl rfl (i_no rfl rfl (i_no rfl rfl (i_no rfl rfl (i_no rfl rfl (i_no rfl rfl (i_no rfl rfl (i_no rfl rfl (i_no rfl rfl (i_no rfl rfl (i_no rfl rfl (i_no rfl rfl (i_no rfl rfl (i_no rfl rfl ?_)))))))))))))))))))))))
   refine kO rfl (a_pick_f rfl rfl rfl (i_nil (r_cond_f rfl (r_skip (then_n (rS (kM rfl rfl (kM rfl rfl (kM rfl rfl (kO rfl (a_build rfl rfl (kO rfl (a_lit rfl rfl rfl (fun b38 => (kO rfl (a_appn rfl rfl (Src.own .here rfl (by simp)) (by decide) (by omega) (by omega) (fun b39 => (kM rfl rfl (i_nil (rI (kM rfl rfl (kM rfl rfl (kO rfl (a_add rfl rfl (by decide) (kM rfl rfl (i_nil (block_n (then_n (r_loop (fun j e A => ∃ (i b : Nat) (G : List (Nat × Nat)), e = [(0, .slice a l.length cap), (4, .int .i64 (i : Int)), (3, .slice (some ⟨b, 0, none⟩) G.length OPEN)] ∧ A = (.row b 198 true (flat2 G) :: []) ∧ j = l.length - i ∧ i ≤ l.length ∧ grs l 0 = G ++ grs l i ∧ G.length ≤ i) 160 0 281474976710656 ?_ (j := _) (env2 := _) (A2 := _) ?_ ?_ ?_ ?_ ⟨1, b39, [(0, 1)], rfl, rfl, rfl, by omega, (gr_step (G := []) (i := 0) rfl (by omega) (by first | exact many_two (by omega) (by assumption) | exact many_one (by omega) | exact many_one2 (by assumption) | exact many_three (by omega) (by assumption) | exact many_one3 (by assumption))), (by simp)⟩)))))))))))))))))))))))))))))
   rotate_left
   ·omega
   ·omega
   ·exact (lc 0 rfl (lc 4 rfl (lc 3 rfl Less.nil)))
   ·exact (.cons_cons _ (.cons _ .slnil))
   rintro n hn j _ _ ⟨i, b, G, rfl, rfl, rfl, hi, hG, hGl⟩
   have z0 := hp.lo (i)
   have z1 := hp.lo (i + 1)
   have z2 := hp.lo (i + 2)
   have r0 : i + 1 < l.length → l.getD (i) 0 < l.getD (i + 1) 0 := fun h => hp.rise _ h
   have r1 : i + 2 < l.length → l.getD (i + 1) 0 < l.getD (i + 2) 0 := fun h => hp.rise _ h
   have hm9 := hp.hm
   have h29 := hp.h2
   refine rQ (rS (kM rfl rfl (kO rfl (a_add rfl rfl (by omega) (kM rfl rfl (kO rfl (a_lenx rfl hl.spot (kO rfl (a_lss rfl rfl (fun h40 => ?_) (fun h40 => ?_))))))))))
   ·refine i_nil (r_cond_t rfl (r_skip (then_n (r_block (rS (kM rfl rfl (i_nil (rQ (rS (kM rfl rfl (kO rfl (a_add rfl rfl (by omega) (kM rfl rfl (kO rfl (a_lenx rfl hl.spot (kO rfl (a_lss rfl rfl (fun h41 => ?_) (fun h41 => ?_))))))))))))))))))
    ·refine kM rfl rfl (kG rfl rfl (a_mov rfl (kG rfl rfl (a_mov rfl (kG rfl rfl (a_add rfl rfl (by omega) (kG rfl rfl (a_iaI (j := i + 1) hl rfl rfl (by omega) (by simp) (by omega) (fun _ _ a42 => (kG rfl rfl (a_ldr rfl (hl.at a42 (by omega)) (kG rfl rfl (a_mov rfl (kG rfl rfl (a_mov rfl (kG rfl rfl (a_iaI (j := i) hl rfl rfl (by omega) (by simp) (by omega) (fun _ _ a43 => (kG rfl rfl (a_ldr rfl (hl.at a43 (by omega)) (kG rfl rfl (a_sub rfl rfl (by omega) (kG rfl rfl (a_mov rfl (kG rfl rfl (a_mov rfl (kG rfl rfl (a_add rfl rfl (by omega) (kG rfl rfl (a_iaI (j := i + 2) hl rfl rfl (by omega) (by simp) (by omega) (fun _ _ a44 => (kG rfl rfl (a_ldr rfl (hl.at a44 (by omega)) (kG rfl rfl (a_mov rfl (kG rfl rfl (a_mov rfl (kG rfl rfl (a_add rfl rfl (by omega) (kG rfl rfl (a_iaI (j := i + 1) hl rfl rfl (by omega) (by simp) (by omega) (fun _ _ a45 => (kG rfl rfl (a_ldr rfl (hl.at a45 (by omega)) (kG rfl rfl (a_sub rfl rfl (by omega) (kG rfl rfl (a_callV rfl rfl (fun s1 h1 => ratio_s _ _ _ s1 h1.wf (by omega) (by omega)) (kG rfl rfl (a_neq rfl rfl (fun h46 => ?_) (fun h46 => ?_)))))))))))))))))))))))))))))))))))))))))))))))))))
     ·refine kO rfl (a_pick_t rfl rfl rfl (i_nil (r_cond_t rfl (rI (kM rfl rfl (i_nil (then_n (rS (kM rfl rfl (kM rfl rfl (kM rfl rfl (kO rfl (a_build rfl rfl (kO rfl (a_lit rfl rfl rfl (fun b47 => (kO rfl (a_app rfl rfl (Src.own .here rfl (by simp)) (.next .here) (by rw [flat2_len]) (.inl ⟨rfl, rfl⟩) (by decide) (by omega) (by omega) (fun b48 => (kM rfl rfl (i_nil (rI (kM rfl rfl (kM rfl rfl (kO rfl (a_add rfl rfl (by omega) (kM rfl rfl (i_nil (block_n (then_n ?_))))))))))))))))))))))))))))))
      exact ⟨rfl, _, _, _, (show l.length - (i + 2) < l.length - i by omega), (lc 0 rfl (lc 4 rfl (lc 3 rfl Less.nil))), (.cons_cons _ (.cons _ .slnil)), ⟨i + 2, b48, G ++ [(i, 2)], (by simp), (by rw [flat2_app]; rfl), rfl, by omega, (gr_step hG (by omega) (by first | exact many_two (by omega) (by assumption) | exact many_one (by omega) | exact many_one2 (by assumption) | exact many_three (by omega) (by assumption) | exact many_one3 (by assumption))), (by simp; omega)⟩⟩
     ·refine kO rfl (a_pick_t rfl rfl rfl (i_nil (r_cond_f rfl (r_skip (then_n (rS (kM rfl rfl (kM rfl rfl (kM rfl rfl (kO rfl (a_build rfl rfl (kO rfl (a_lit rfl rfl rfl (fun b49 => (kO rfl (a_app rfl rfl (Src.own .here rfl (by simp)) (.next .here) (by rw [flat2_len]) (.inl ⟨rfl, rfl⟩) (by decide) (by omega) (by omega) (fun b50 => (kM rfl rfl (i_nil (rI (kM rfl rfl (kM rfl rfl (kO rfl (a_add rfl rfl (by omega) (kM rfl rfl (i_nil (block_n (then_n ?_))))))))))))))))))))))))))))
      exact ⟨rfl, _, _, _, (show l.length - (i + 1) < l.length - i by omega), (lc 0 rfl (lc 4 rfl (lc 3 rfl Less.nil))), (.cons_cons _ (.cons _ .slnil)), ⟨i + 1, b50, G ++ [(i, 1)], (by simp), (by rw [flat2_app]; rfl), rfl, by omega, (gr_step hG (by omega) (by first | exact many_two (by omega) (by assumption) | exact many_one (by omega) | exact many_one2 (by assumption) | exact many_three (by omega) (by assumption) | exact many_one3 (by assumption))), (by simp; omega)⟩⟩
    ·refine kM rfl rfl (i_no rfl rfl (i_no rfl rfl (i_no rfl rfl (i_no rfl rfl (i_no rfl rfl (i_no rfl rfl (i_no rfl rfl (i_no rfl rfl (i_no rfl rfl (i_no rfl rfl (i_no rfl rfl (i_no rfl rfl (i_no rfl rfl (i_no rfl rfl (i_no rfl rfl (i_no rfl rfl (i_no rfl rfl (i_no rfl rfl (i_no rfl rfl (i_no rfl rfl (i_no rfl rfl (i_no rfl rfl (i_no rfl rfl ?_)))))))))))))))))))))))
     refine kO rfl (a_pick_f rfl rfl rfl (i_nil (r_cond_f rfl (r_skip (then_n (rS (kM rfl rfl (kM rfl rfl (kM rfl rfl (kO rfl (a_build rfl rfl (kO rfl (a_lit rfl rfl rfl (fun b51 => (kO rfl (a_app rfl rfl (Src.own .here rfl (by simp)) (.next .here) (by rw [flat2_len]) (.inl ⟨rfl, rfl⟩) (by decide) (by omega) (by omega) (fun b52 => (kM rfl rfl (i_nil (rI (kM rfl rfl (kM rfl rfl (kO rfl (a_add rfl rfl (by omega) (kM rfl rfl (i_nil (block_n (then_n ?_))))))))))))))))))))))))))))
     exact ⟨rfl, _, _, _, (show l.length - (i + 1) < l.length - i by omega), (lc 0 rfl (lc 4 rfl (lc 3 rfl Less.nil))), (.cons_cons _ (.cons _ .slnil)), ⟨i + 1, b52, G ++ [(i, 1)], (by simp), (by rw [flat2_app]; rfl), rfl, by omega, (gr_step hG (by omega) (by first | exact many_two (by omega) (by assumption) | exact many_one (by omega) | exact many_one2 (by assumption) | exact many_three (by omega) (by assumption) | exact many_one3 (by assumption))), (by simp; omega)⟩⟩
   ·refine i_nil (r_cond_f rfl (r_exit (then_e (then_e (block_hit (then_n (rS (kM rfl rfl (kM rfl rfl (i_nil (r_ret ?_)))))))))))
    first
     | exact end1A rfl (List.Sublist.refl _) ⟨b, by rw [gr_end hG (by omega)], by rw [gr_end hG (by omega)]⟩
     | (exfalso; omega)
 ·refine i_nil (r_cond_f rfl (r_exit (then_e (then_e (block_hit (then_n (rS (kM rfl rfl (kM rfl rfl (i_nil (r_ret ?_)))))))))))
  first
   | exact end1A rfl (List.Sublist.refl _) ⟨_, by rw [gr_end hG (by omega)], by rw [gr_end hG (by omega)]⟩
   | (exfalso; omega)

end
end Ev
end Go.Proofs.YtonbhokaeodmdaaGreat

/- Contracts: weights. -/
namespace Go.Proofs.YtonbhokaeodmdaaGreat
open Go Go.RowKit
namespace Ev
theorem many_ne {l : List Int} {i : Nat} (h : many l i = 2) : ¬ rat (l.getD (i + 1) 0 - l.getD i 0) (l.getD (i + 2) 0 - l.getD (i + 1) 0) = 0 := fun q => by
  rw [many_one2 q] at h; cases h
theorem rat_pos {a b : Int} (h : ¬ rat a b = 0) : rat a b = 1 ∨ rat a b = 2 ∨ rat a b = 3 := by
  rcases rat_cases a b with q | q
  · exact absurd q h
  · exact q
def step1 (l w : List Int) (i : Nat) : List Int :=
  (w.set i (w.getD i 0 + 18 * (l.getD (i + 1) 0 - l.getD i 0))).set (i + 1) (w.getD (i + 1) 0 + 18 * (l.getD (i + 1) 0 - l.getD i 0))
def unitK (a b k : Int) : Int := Int.tdiv 6 k * (1 + k) * min a b
def step2 (l w : List Int) (i : Nat) (k : Int) : List Int :=
  let c := unitK (l.getD (i + 1) 0 - l.getD i 0) (l.getD (i + 2) 0 - l.getD (i + 1) 0) k
  if l.getD (i + 2) 0 - l.getD (i + 1) 0 < l.getD (i + 1) 0 - l.getD i 0 then
    ((w.set i (w.getD i 0 + c * (2 * k - 1))).set (i + 1) (w.getD (i + 1) 0 + c * (1 + k) * (1 + k))).set (i + 2) (w.getD (i + 2) 0 + c * k * (2 - k))
  else ((w.set i (w.getD i 0 + c * k * (2 - k))).set (i + 1) (w.getD (i + 1) 0 + c * (1 + k) * (1 + k))).set (i + 2) (w.getD (i + 2) 0 + c * (2 * k - 1))
def stepW (l w : List Int) (p : Nat × Nat) : List Int :=
  if p.2 = 1 then step1 l w p.1 else step2 l w p.1 (rat (l.getD (p.1 + 1) 0 - l.getD p.1 0) (l.getD (p.1 + 2) 0 - l.getD (p.1 + 1) 0))
def W (l : List Int) (k : Nat) : List Int := ((grs l 0).take k).foldl (stepW l) (List.replicate l.length 0)
def wts (l : List Int) : List Int := (grs l 0).foldl (stepW l) (List.replicate l.length 0)
theorem step_len {l w : List Int} {p : Nat × Nat} : (stepW l w p).length = w.length := by
  unfold stepW step1 step2
  split
  · simp
  · split <;> simp
theorem W_succ {l : List Int} {k : Nat} {p : Nat × Nat} (h : (grs l 0)[k]? = some p) : W l (k + 1) = stepW l (W l k) p := by
  unfold W
  rw [List.take_add_one, h, List.foldl_append]; rfl
theorem W_one {l : List Int} {k i m : Nat} (h : (grs l 0)[k]? = some (i, m)) (hm : m = 1) : W l (k + 1) = step1 l (W l k) i := by
  rw [W_succ h]; unfold stepW; rw [if_pos hm]
theorem W_two {l : List Int} {k i m : Nat} {r : Int} (h : (grs l 0)[k]? = some (i, m)) (hm : m = 2) (hr : rat (l.getD (i + 1) 0 - l.getD i 0) (l.getD (i + 2) 0 - l.getD (i + 1) 0) = r) : W l (k + 1) = step2 l (W l k) i r := by
  rw [W_succ h]; unfold stepW; rw [if_neg (by show ¬ m = 1; omega)]; show step2 l (W l k) i (rat _ _) = _; rw [hr]
theorem wlen {l : List Int} : ∀ {k : Nat}, (W l k).length = l.length := by
  have key : ∀ (G : List (Nat × Nat)) (w : List Int), (G.foldl (stepW l) w).length = w.length := by
    intro G
    induction G with
    | nil => intro w; rfl
    | cons p G ih => intro w; rw [List.foldl_cons, ih, step_len]
  intro k
  unfold W
  rw [key]; simp
theorem W_end {l : List Int} {k : Nat} (h : (grs l 0).length ≤ k) : W l k = wts l := by unfold W wts; rw [List.take_of_length_le h]
theorem wts_len {l : List Int} : (wts l).length = l.length := by rw [← W_end (Nat.le_refl _)]; exact wlen
def Bd (w : List Int) (M : Int) : Prop := ∀ j, -M ≤ w.getD j 0 ∧ w.getD j 0 ≤ M
theorem bd_set {w : List Int} {M : Int} {i : Nat} {v : Int} (h : Bd w M) (hv : -M ≤ v ∧ v ≤ M) : Bd (w.set i v) M := by
  intro j
  by_cases hij : i = j
  · subst hij
    by_cases hi : i < w.length
    · have : (w.set i v).getD i 0 = v := by simp [List.getD_eq_getElem?_getD, hi]
      rw [this]; exact hv
    · rw [List.set_eq_of_length_le (by omega)]; exact h i
  · rw [getD_set_ne hij]; exact h j
theorem step_bd {l w : List Int} {p : Nat × Nat} {M : Int} (hp : Plc 9 100000 l) (hin : p.1 + p.2 < l.length) (hm : many l p.1 = p.2) (h0 : 0 ≤ M) (h : Bd w M) : Bd (stepW l w p) (M + 20000000) := by
  have hN : Bd w (M + 20000000) := fun j => by have := h j; omega
  obtain ⟨i, m⟩ := p
  have z0 := hp.lo i
  have z1 := hp.lo (i + 1)
  have z2 := hp.lo (i + 2)
  have b0 := h i
  have b1 := h (i + 1)
  have b2 := h (i + 2)
  have hm' : many l i = m := hm
  have hin' : i + m < l.length := hin
  unfold stepW
  rcases many_cases l i with q | q
  · rw [if_pos (by show m = 1; omega)]
    show Bd (step1 l w i) _
    unfold step1
    exact bd_set (bd_set hN (by omega)) (by omega)
  · rw [if_neg (by show ¬ m = 1; omega)]
    have r0 := hp.rise i (by omega)
    have r1 := hp.rise (i + 1) (by omega)
    show Bd (step2 l w i (rat _ _)) _
    rcases rat_pos (many_ne q) with hk | hk | hk
    · rw [hk]
      unfold step2
      have hu : unitK (l.getD (i + 1) 0 - l.getD i 0) (l.getD (i + 2) 0 - l.getD (i + 1) 0) 1 = 12 * min (l.getD (i + 1) 0 - l.getD i 0) (l.getD (i + 2) 0 - l.getD (i + 1) 0) := rfl
      rw [hu]
      split <;> exact bd_set (bd_set (bd_set hN (by omega)) (by omega)) (by omega)
    · rw [hk]
      unfold step2
      have hu : unitK (l.getD (i + 1) 0 - l.getD i 0) (l.getD (i + 2) 0 - l.getD (i + 1) 0) 2 = 9 * min (l.getD (i + 1) 0 - l.getD i 0) (l.getD (i + 2) 0 - l.getD (i + 1) 0) := rfl
      rw [hu]
      split <;> exact bd_set (bd_set (bd_set hN (by omega)) (by omega)) (by omega)
    · rw [hk]
      unfold step2
      have hu : unitK (l.getD (i + 1) 0 - l.getD i 0) (l.getD (i + 2) 0 - l.getD (i + 1) 0) 3 = 8 * min (l.getD (i + 1) 0 - l.getD i 0) (l.getD (i + 2) 0 - l.getD (i + 1) 0) := rfl
      rw [hu]
      split <;> exact bd_set (bd_set (bd_set hN (by omega)) (by omega)) (by omega)
theorem gr_mem {l : List Int} {k : Nat} {p : Nat × Nat} (h : (grs l 0)[k]? = some p) : p.1 + p.2 < l.length ∧ many l p.1 = p.2 := gr_in l.length 0 (by omega) p (List.mem_of_getElem? h)
theorem W_bd {l : List Int} (hp : Plc 9 100000 l) : ∀ k : Nat, Bd (W l k) (20000000 * (k : Int))
  | 0 => fun j => by
    have : (W l 0).getD j 0 = 0 := by
      show (List.replicate l.length (0 : Int)).getD j 0 = 0
      rw [List.getD_eq_getElem?_getD, List.getElem?_replicate]
      split <;> rfl
    rw [this]; omega
  | k + 1 => by
    cases hk : (grs l 0)[k]? with
    | none =>
      have h1 : W l (k + 1) = W l k := by unfold W; rw [List.take_add_one, hk]; simp
      rw [h1]
      intro j
      have := W_bd hp k j
      omega
    | some p =>
      rw [W_succ hk]
      obtain ⟨h1, h2⟩ := gr_mem hk
      have := step_bd hp h1 h2 (by omega) (W_bd hp k)
      intro j
      have := this j
      omega
theorem wts_bd {l : List Int} (hp : Plc 9 100000 l) : Bd (wts l) 200000000 := by
  intro j
  have h1 := W_bd hp (grs l 0).length j
  rw [W_end (Nat.le_refl _)] at h1
  have := gr_len (l := l) l.length 0 (by omega)
  have := hp.hm
  omega
theorem get_some {α : Type} {l : List α} {k : Nat} (h : k < l.length) : ∃ p, l[k]? = some p := ⟨l[k], List.getElem?_eq_getElem h⟩
theorem flat2_seg {G : List (Nat × Nat)} {k i m : Nat} (h : G[k]? = some (i, m)) : segL (flat2 G) (0 + k * 2) 2 = some [.int .i64 (i : Int), .int .i64 (m : Int)] := by
  obtain ⟨h1, h2⟩ := flat2_get h
  rw [Nat.zero_add]
  simp only [segL, h1, h2]
theorem flat2_at0 {G : List (Nat × Nat)} {k i m : Nat} (h : G[k]? = some (i, m)) : (flat2 G)[0 + k * 2 + 0]? = some (.int .i64 (i : Int)) := by
  rw [Nat.zero_add]; exact (flat2_get h).1
theorem flat2_at1 {G : List (Nat × Nat)} {k i m : Nat} (h : G[k]? = some (i, m)) : (flat2 G)[0 + k * 2 + 1]? = some (.int .i64 (m : Int)) := by
  rw [Nat.zero_add]; exact (flat2_get h).2

section
variable {X : FuncId → List Value → St → (Value → St → Bool) → Bool}
theorem weightsOf_s (n : Nat) (a : Option Addr) (cap : Nat) (l : List Int) (s : St) (hs : Wf s) (hn : 562949953421312 ≤ n) (hl : IntsE s a l) (hp : Plc 9 100000 l) : Spec Tryz.prog (tabK tabw) X (n + 900) 138 [.slice a l.length cap] s (fun v A => ∃ b, v = .slice (some ⟨b, 0, none⟩) l.length l.length ∧ A = [.row b 3 false (ints (wts l))]) := by
 refine enter bw138_at rfl hs ?_
 unfold bw138
 have hlen := hl.len
 have hm9 := hp.hm
 have hG9 := gr_len (l := l) l.length 0 (by omega)
 refine rS (kM rfl rfl (i_nil (rS (kM rfl rfl (kO rfl (a_lenx rfl hl.spot (kO rfl (a_mksI rfl rfl (by omega) (by omega) (by omega) (fun b1 => (kO rfl (a_build rfl rfl (kO rfl (a_new rfl rfl (fun b2 => (kZ rfl (a_sta rfl rfl .here rfl rfl rfl rfl (i_nil (rS (kM rfl rfl (kO rfl (a_fn rfl rfl (kG rfl rfl (a_inl rfl rfl bw155_at rfl ?_)))))))))))))))))))))))
 unfold bw155
 refine rS (kM rfl rfl (kO rfl (a_call rfl rfl (fun s1 h1 => groupsOf_s _ _ _ _ s1 h1.wf (by omega) (hl.ext hs h1.2.1) hp) (fun v1 A1 q1 => ?_))))
 obtain ⟨b3, rfl, rfl⟩ := q1
 refine kO rfl (a_len rfl (kM rfl rfl (i_nil (r_block (r_loop (fun j e A => ∃ (k : Nat), e = [(0, .slice a l.length cap), (1, .func (.func 156) ⟨[.pointer (some ⟨b2, 0, none⟩)]⟩ ⟨[]⟩), (7, .slice (some ⟨b3, 0, none⟩) (grs l 0).length OPEN), (8, .int .i64 ((grs l 0).length : Int)), (9, .int .i64 (k : Int))] ∧ A = (.row b3 198 true (flat2 (grs l 0)) :: (.row b2 208 false ([.slice (some ⟨b1, 0, none⟩) l.length l.length, .slice none 0 0, .int .i64 0]) :: (.row b1 3 false (ints (W l k)) :: []))) ∧ j = (grs l 0).length - k ∧ k ≤ (grs l 0).length) 400 0 281474976710656 ?_ (j := _) (env2 := _) (A2 := _) ?_ ?_ ?_ ?_ ⟨0, rfl, rfl, rfl, by omega⟩)))))
 rotate_left
 ·omega
 ·omega
 ·exact (lc 0 rfl (lc 1 rfl (lc 7 rfl (lc 8 rfl (lc 9 rfl Less.nil)))))
 ·exact (.cons_cons _ (.cons_cons _ (.cons_cons _ .slnil)))
 rintro n hn j _ _ ⟨k, rfl, rfl, rfl, hkl⟩
 refine rS (kO rfl (a_lss rfl rfl (fun h4 => ?_) (fun h4 => ?_)))
 ·obtain ⟨⟨i, m⟩, hgk⟩ := get_some (l := grs l 0) (k := k) (by omega)
  obtain ⟨hin, hmm⟩ := gr_mem hgk
  simp only at hin hmm
  have hmc := many_cases l i
  have z0 := hp.lo (i)
  have z1 := hp.lo (i + 1)
  have z2 := hp.lo (i + 2)
  have r0 : i + 1 < l.length → l.getD (i) 0 < l.getD (i + 1) 0 := fun h => hp.rise _ h
  have r1 : i + 2 < l.length → l.getD (i + 1) 0 < l.getD (i + 2) 0 := fun h => hp.rise _ h
  have hm9 := hp.hm
  have h29 := hp.h2
  have b0 := W_bd hp k i
  have b1 := W_bd hp k (i + 1)
  have b2 := W_bd hp k (i + 2)
  have hG9 := gr_len (l := l) l.length 0 (by omega)
  refine i_nil (rQ (r_cond_t rfl (r_skip (then_n (rQ (r_block (rS (kO rfl (a_ia (j := k) rfl rfl (by omega) (by omega) (kO rfl (a_lda rfl (by decide) .here (flat2_seg hgk) (kO rfl (a_new rfl rfl (fun b5 => (kZ rfl (a_sta rfl rfl .here rfl rfl rfl rfl (i_nil (rS (kO rfl (a_fa rfl (kO rfl (a_ld rfl .here rfl (kO rfl (a_eql rfl rfl (fun h6 => ?_) (fun h6 => ?_)))))))))))))))))))))))))
  ·have hm1 : m = 1 := by omega
   refine i_nil (r_cond_t rfl (rI (kM rfl rfl (kO rfl (a_fa rfl (kO rfl (a_ld rfl .here rfl (kM rfl rfl (kG rfl rfl (a_inl rfl rfl bw168_at rfl ?_))))))))))
   unfold bw168
   refine rS (kM rfl rfl (kM rfl rfl (kO rfl (a_add rfl rfl (by omega) (kO rfl (a_iaI (j := i + 1) hl rfl rfl (by omega) (by simp) (by omega) (fun _ _ a7 => (kO rfl (a_ldr rfl (hl.at a7 (by omega)) (kM rfl rfl (kM rfl rfl (kO rfl (a_iaI (j := i) hl rfl rfl (by omega) (by simp) (by omega) (fun _ _ a8 => (kO rfl (a_ldr rfl (hl.at a8 (by omega)) (kO rfl (a_sub rfl rfl (by omega) (kO rfl (a_mul rfl rfl (by omega) (kM rfl rfl (i_nil (rS (kM rfl rfl (kM rfl rfl (kM rfl rfl (kG rfl rfl (a_inl rfl rfl bw156_at rfl ?_))))))))))))))))))))))))))))
   unfold bw156
   refine rI (kM rfl rfl (kO rfl (a_nilc rfl (kO rfl (a_fa rfl (kO rfl (a_ld rfl (.next (.next .here)) rfl (kM rfl rfl (kO rfl (a_ia (j := i) rfl rfl (by omega) (by omega) (kO rfl (a_ldX (x := (W l k).getD (i) 0) rfl (.next (.next (.next .here))) (by simp [wlen]; omega) (by first | rfl | (rw [getD_set_ne (by omega), getD_set_ne (by omega)]; done) | (rw [getD_set_ne (by omega)]; done)) (kM rfl rfl (kO rfl (a_add rfl rfl (by omega) (kO rfl (a_ia (j := i) rfl rfl (by omega) (by omega) (kZ rfl (a_stI rfl rfl (.next (.next (.next .here))) (by first | omega | (simp; done) | (simp [wlen]; omega) | (simp; omega)) (i_nil (endD0n .nil (i_nil (rI (kM rfl rfl (kM rfl rfl (kO rfl (a_add rfl rfl (by omega) (kM rfl rfl (kG rfl rfl (a_inl rfl rfl bw156_at rfl ?_))))))))))))))))))))))))))))))
   unfold bw156
   refine rI (kM rfl rfl (kO rfl (a_nilc rfl (kO rfl (a_fa rfl (kO rfl (a_ld rfl (.next (.next .here)) rfl (kM rfl rfl (kO rfl (a_ia (j := i + 1) rfl rfl (by omega) (by omega) (kO rfl (a_ldX (x := (W l k).getD (i + 1) 0) rfl (.next (.next (.next .here))) (by simp [wlen]; omega) (by first | rfl | (rw [getD_set_ne (by omega), getD_set_ne (by omega)]; done) | (rw [getD_set_ne (by omega)]; done)) (kM rfl rfl (kO rfl (a_add rfl rfl (by omega) (kO rfl (a_ia (j := i + 1) rfl rfl (by omega) (by omega) (kZ rfl (a_stI rfl rfl (.next (.next (.next .here))) (by first | omega | (simp; done) | (simp [wlen]; omega) | (simp; omega)) (i_nil (endD0n .nil (i_nil (endD0n .nil (i_nil (block_n (then_n (rI (kO rfl (a_add rfl rfl (by omega) (kM rfl rfl (i_nil (then_n ?_))))))))))))))))))))))))))))))))
   exact ⟨rfl, _, _, _, (show (grs l 0).length - (k + 1) < (grs l 0).length - k by omega), (lc 0 rfl (lc 1 rfl (lc 7 rfl (lc 8 rfl (lc 9 rfl Less.nil))))), (.cons _ (.cons_cons _ (.cons_cons _ (.cons_cons _ .slnil)))), ⟨k + 1, rfl, (by first
  | (rw [W_one hgk hm1]; first | done | rfl)
  | (rw [W_two hgk hm2 hk]; unfold step2; dsimp only; rw [if_pos (by assumption)]; first | done | rfl)
  | (rw [W_two hgk hm2 hk]; unfold step2; dsimp only; rw [if_neg (by assumption)]; first | done | rfl)), rfl, by omega⟩⟩
  ·have hm2 : m = 2 := by omega
   have hrat := many_ne (hmm.trans hm2)
   refine i_nil (r_cond_f rfl (rI (kM rfl rfl (kO rfl (a_fa rfl (kO rfl (a_ld rfl .here rfl (kM rfl rfl (kG rfl rfl (a_inl rfl rfl bw169_at rfl ?_))))))))))
   unfold bw169
   refine rS (kM rfl rfl (kM rfl rfl (kO rfl (a_add rfl rfl (by omega) (kO rfl (a_iaI (j := i + 1) hl rfl rfl (by omega) (by simp) (by omega) (fun _ _ a9 => (kO rfl (a_ldr rfl (hl.at a9 (by omega)) (kM rfl rfl (kM rfl rfl (kO rfl (a_iaI (j := i) hl rfl rfl (by omega) (by simp) (by omega) (fun _ _ a10 => (kO rfl (a_ldr rfl (hl.at a10 (by omega)) (kO rfl (a_sub rfl rfl (by omega) (kM rfl rfl (kM rfl rfl (kO rfl (a_add rfl rfl (by omega) (kO rfl (a_iaI (j := i + 2) hl rfl rfl (by omega) (by simp) (by omega) (fun _ _ a11 => (kO rfl (a_ldr rfl (hl.at a11 (by omega)) (kM rfl rfl (kM rfl rfl (kO rfl (a_add rfl rfl (by omega) (kO rfl (a_iaI (j := i + 1) hl rfl rfl (by omega) (by simp) (by omega) (fun _ _ a12 => (kO rfl (a_ldr rfl (hl.at a12 (by omega)) (kO rfl (a_sub rfl rfl (by omega) (kM rfl rfl (kM rfl rfl ?_))))))))))))))))))))))))))))))))))))))))
   refine i_nil (rS (kM rfl rfl (kM rfl rfl (kO rfl (a_call rfl rfl (fun s1 h1 => ratio_s _ _ _ s1 h1.wf (by omega) (by omega)) (fun v1 A1 q1 => ?_))))))
   obtain ⟨rfl, rfl⟩ := q1
   rcases rat_pos hrat with hk | hk | hk
   ·rw [hk]
    refine kM rfl rfl (i_nil (rS (kM rfl rfl (kO rfl (a_quoc (q := 6) rfl rfl (by decide) rfl (by decide) (kM rfl rfl (kO rfl (a_add rfl rfl (by decide) (kO rfl (a_mul rfl rfl (by decide) (kM rfl rfl (kM rfl rfl (kO rfl (a_min rfl (kO rfl (a_mul rfl rfl (by omega) (kM rfl rfl (i_nil (rS (kM rfl rfl (kM rfl rfl (kO rfl (a_mul rfl rfl (by omega) (kM rfl rfl (kO rfl (a_sub rfl rfl (by decide) (kO rfl (a_mul rfl rfl (by omega) (kM rfl rfl (kM rfl rfl (kO rfl (a_mul rfl rfl (by decide) ?_))))))))))))))))))))))))))))))))
    refine kO rfl (a_sub rfl rfl (by decide) (kO rfl (a_mul rfl rfl (by omega) (kM rfl rfl (kM rfl rfl (i_nil (rQ (rS (kM rfl rfl (kM rfl rfl (kO rfl (a_gtr rfl rfl (fun h13 => ?_) (fun h13 => ?_)))))))))))))
    ·refine i_nil (r_cond_t rfl (rI (kM rfl rfl (kM rfl rfl (kM rfl rfl (kM rfl rfl (i_nil (then_n (rS (kM rfl rfl (kM rfl rfl (kM rfl rfl (kG rfl rfl (a_inl rfl rfl bw156_at rfl ?_))))))))))))))
     unfold bw156
     refine rI (kM rfl rfl (kO rfl (a_nilc rfl (kO rfl (a_fa rfl (kO rfl (a_ld rfl (.next (.next .here)) rfl (kM rfl rfl (kO rfl (a_ia (j := i) rfl rfl (by omega) (by omega) (kO rfl (a_ldX (x := (W l k).getD (i) 0) rfl (.next (.next (.next .here))) (by simp [wlen]; omega) (by first | rfl | (rw [getD_set_ne (by omega), getD_set_ne (by omega)]; done) | (rw [getD_set_ne (by omega)]; done)) (kM rfl rfl (kO rfl (a_add rfl rfl (by omega) (kO rfl (a_ia (j := i) rfl rfl (by omega) (by omega) (kZ rfl (a_stI rfl rfl (.next (.next (.next .here))) (by first | omega | (simp; done) | (simp [wlen]; omega) | (simp; omega)) (i_nil (endD0n .nil (i_nil (rS (kM rfl rfl (kM rfl rfl (kO rfl (a_add rfl rfl (by omega) (kM rfl rfl (kM rfl rfl (kO rfl (a_add rfl rfl (by decide) (kO rfl (a_mul rfl rfl (by omega) (kM rfl rfl ?_))))))))))))))))))))))))))))))))))
     refine kO rfl (a_add rfl rfl (by decide) (kO rfl (a_mul rfl rfl (by omega) (kG rfl rfl (a_inl rfl rfl bw156_at rfl ?_)))))
     unfold bw156
     refine rI (kM rfl rfl (kO rfl (a_nilc rfl (kO rfl (a_fa rfl (kO rfl (a_ld rfl (.next (.next .here)) rfl (kM rfl rfl (kO rfl (a_ia (j := i + 1) rfl rfl (by omega) (by omega) (kO rfl (a_ldX (x := (W l k).getD (i + 1) 0) rfl (.next (.next (.next .here))) (by simp [wlen]; omega) (by first | rfl | (rw [getD_set_ne (by omega), getD_set_ne (by omega)]; done) | (rw [getD_set_ne (by omega)]; done)) (kM rfl rfl (kO rfl (a_add rfl rfl (by omega) (kO rfl (a_ia (j := i + 1) rfl rfl (by omega) (by omega) (kZ rfl (a_stI rfl rfl (.next (.next (.next .here))) (by first | omega | (simp; done) | (simp [wlen]; omega) | (simp; omega)) (i_nil (endD0n .nil (i_nil (rI (kM rfl rfl (kM rfl rfl (kO rfl (a_add rfl rfl (by omega) (kM rfl rfl (kG rfl rfl (a_inl rfl rfl bw156_at rfl ?_))))))))))))))))))))))))))))))
     unfold bw156
     refine rI (kM rfl rfl (kO rfl (a_nilc rfl (kO rfl (a_fa rfl (kO rfl (a_ld rfl (.next (.next .here)) rfl (kM rfl rfl (kO rfl (a_ia (j := i + 2) rfl rfl (by omega) (by omega) (kO rfl (a_ldX (x := (W l k).getD (i + 2) 0) rfl (.next (.next (.next .here))) (by simp [wlen]; omega) (by first | rfl | (rw [getD_set_ne (by omega), getD_set_ne (by omega)]; done) | (rw [getD_set_ne (by omega)]; done)) (kM rfl rfl (kO rfl (a_add rfl rfl (by omega) (kO rfl (a_ia (j := i + 2) rfl rfl (by omega) (by omega) (kZ rfl (a_stI rfl rfl (.next (.next (.next .here))) (by first | omega | (simp; done) | (simp [wlen]; omega) | (simp; omega)) (i_nil (endD0n .nil (i_nil (endD0n .nil (i_nil (block_n (then_n (rI (kO rfl (a_add rfl rfl (by omega) (kM rfl rfl (i_nil (then_n ?_))))))))))))))))))))))))))))))))
     exact ⟨rfl, _, _, _, (show (grs l 0).length - (k + 1) < (grs l 0).length - k by omega), (lc 0 rfl (lc 1 rfl (lc 7 rfl (lc 8 rfl (lc 9 rfl Less.nil))))), (.cons _ (.cons_cons _ (.cons_cons _ (.cons_cons _ .slnil)))), ⟨k + 1, rfl, (by first
  | (rw [W_one hgk hm1]; first | done | rfl)
  | (rw [W_two hgk hm2 hk]; unfold step2; dsimp only; rw [if_pos (by assumption)]; first | done | rfl)
  | (rw [W_two hgk hm2 hk]; unfold step2; dsimp only; rw [if_neg (by assumption)]; first | done | rfl)), rfl, by omega⟩⟩
    ·refine i_nil (r_cond_f rfl (r_skip (then_n (rS (kM rfl rfl (kM rfl rfl (kM rfl rfl (kG rfl rfl (a_inl rfl rfl bw156_at rfl ?_)))))))))
     unfold bw156
     refine rI (kM rfl rfl (kO rfl (a_nilc rfl (kO rfl (a_fa rfl (kO rfl (a_ld rfl (.next (.next .here)) rfl (kM rfl rfl (kO rfl (a_ia (j := i) rfl rfl (by omega) (by omega) (kO rfl (a_ldX (x := (W l k).getD (i) 0) rfl (.next (.next (.next .here))) (by simp [wlen]; omega) (by first | rfl | (rw [getD_set_ne (by omega), getD_set_ne (by omega)]; done) | (rw [getD_set_ne (by omega)]; done)) (kM rfl rfl (kO rfl (a_add rfl rfl (by omega) (kO rfl (a_ia (j := i) rfl rfl (by omega) (by omega) (kZ rfl (a_stI rfl rfl (.next (.next (.next .here))) (by first | omega | (simp; done) | (simp [wlen]; omega) | (simp; omega)) (i_nil (endD0n .nil (i_nil (rS (kM rfl rfl (kM rfl rfl (kO rfl (a_add rfl rfl (by omega) (kM rfl rfl (kM rfl rfl (kO rfl (a_add rfl rfl (by decide) (kO rfl (a_mul rfl rfl (by omega) (kM rfl rfl ?_))))))))))))))))))))))))))))))))))
     refine kO rfl (a_add rfl rfl (by decide) (kO rfl (a_mul rfl rfl (by omega) (kG rfl rfl (a_inl rfl rfl bw156_at rfl ?_)))))
     unfold bw156
     refine rI (kM rfl rfl (kO rfl (a_nilc rfl (kO rfl (a_fa rfl (kO rfl (a_ld rfl (.next (.next .here)) rfl (kM rfl rfl (kO rfl (a_ia (j := i + 1) rfl rfl (by omega) (by omega) (kO rfl (a_ldX (x := (W l k).getD (i + 1) 0) rfl (.next (.next (.next .here))) (by simp [wlen]; omega) (by first | rfl | (rw [getD_set_ne (by omega), getD_set_ne (by omega)]; done) | (rw [getD_set_ne (by omega)]; done)) (kM rfl rfl (kO rfl (a_add rfl rfl (by omega) (kO rfl (a_ia (j := i + 1) rfl rfl (by omega) (by omega) (kZ rfl (a_stI rfl rfl (.next (.next (.next .here))) (by first | omega | (simp; done) | (simp [wlen]; omega) | (simp; omega)) (i_nil (endD0n .nil (i_nil (rI (kM rfl rfl (kM rfl rfl (kO rfl (a_add rfl rfl (by omega) (kM rfl rfl (kG rfl rfl (a_inl rfl rfl bw156_at rfl ?_))))))))))))))))))))))))))))))
     unfold bw156
     refine rI (kM rfl rfl (kO rfl (a_nilc rfl (kO rfl (a_fa rfl (kO rfl (a_ld rfl (.next (.next .here)) rfl (kM rfl rfl (kO rfl (a_ia (j := i + 2) rfl rfl (by omega) (by omega) (kO rfl (a_ldX (x := (W l k).getD (i + 2) 0) rfl (.next (.next (.next .here))) (by simp [wlen]; omega) (by first | rfl | (rw [getD_set_ne (by omega), getD_set_ne (by omega)]; done) | (rw [getD_set_ne (by omega)]; done)) (kM rfl rfl (kO rfl (a_add rfl rfl (by omega) (kO rfl (a_ia (j := i + 2) rfl rfl (by omega) (by omega) (kZ rfl (a_stI rfl rfl (.next (.next (.next .here))) (by first | omega | (simp; done) | (simp [wlen]; omega) | (simp; omega)) (i_nil (endD0n .nil (i_nil (endD0n .nil (i_nil (block_n (then_n (rI (kO rfl (a_add rfl rfl (by omega) (kM rfl rfl (i_nil (then_n ?_))))))))))))))))))))))))))))))))
     exact ⟨rfl, _, _, _, (show (grs l 0).length - (k + 1) < (grs l 0).length - k by omega), (lc 0 rfl (lc 1 rfl (lc 7 rfl (lc 8 rfl (lc 9 rfl Less.nil))))), (.cons _ (.cons_cons _ (.cons_cons _ (.cons_cons _ .slnil)))), ⟨k + 1, rfl, (by first
  | (rw [W_one hgk hm1]; first | done | rfl)
  | (rw [W_two hgk hm2 hk]; unfold step2; dsimp only; rw [if_pos (by assumption)]; first | done | rfl)
  | (rw [W_two hgk hm2 hk]; unfold step2; dsimp only; rw [if_neg (by assumption)]; first | done | rfl)), rfl, by omega⟩⟩
   ·rw [hk]
    refine kM rfl rfl (i_nil (rS (kM rfl rfl (kO rfl (a_quoc (q := 3) rfl rfl (by decide) rfl (by decide) (kM rfl rfl (kO rfl (a_add rfl rfl (by decide) (kO rfl (a_mul rfl rfl (by decide) (kM rfl rfl (kM rfl rfl (kO rfl (a_min rfl (kO rfl (a_mul rfl rfl (by omega) (kM rfl rfl (i_nil (rS (kM rfl rfl (kM rfl rfl (kO rfl (a_mul rfl rfl (by omega) (kM rfl rfl (kO rfl (a_sub rfl rfl (by decide) (kO rfl (a_mul rfl rfl (by omega) (kM rfl rfl (kM rfl rfl (kO rfl (a_mul rfl rfl (by decide) ?_))))))))))))))))))))))))))))))))
    refine kO rfl (a_sub rfl rfl (by decide) (kO rfl (a_mul rfl rfl (by omega) (kM rfl rfl (kM rfl rfl (i_nil (rQ (rS (kM rfl rfl (kM rfl rfl (kO rfl (a_gtr rfl rfl (fun h14 => ?_) (fun h14 => ?_)))))))))))))
    ·refine i_nil (r_cond_t rfl (rI (kM rfl rfl (kM rfl rfl (kM rfl rfl (kM rfl rfl (i_nil (then_n (rS (kM rfl rfl (kM rfl rfl (kM rfl rfl (kG rfl rfl (a_inl rfl rfl bw156_at rfl ?_))))))))))))))
     unfold bw156
     refine rI (kM rfl rfl (kO rfl (a_nilc rfl (kO rfl (a_fa rfl (kO rfl (a_ld rfl (.next (.next .here)) rfl (kM rfl rfl (kO rfl (a_ia (j := i) rfl rfl (by omega) (by omega) (kO rfl (a_ldX (x := (W l k).getD (i) 0) rfl (.next (.next (.next .here))) (by simp [wlen]; omega) (by first | rfl | (rw [getD_set_ne (by omega), getD_set_ne (by omega)]; done) | (rw [getD_set_ne (by omega)]; done)) (kM rfl rfl (kO rfl (a_add rfl rfl (by omega) (kO rfl (a_ia (j := i) rfl rfl (by omega) (by omega) (kZ rfl (a_stI rfl rfl (.next (.next (.next .here))) (by first | omega | (simp; done) | (simp [wlen]; omega) | (simp; omega)) (i_nil (endD0n .nil (i_nil (rS (kM rfl rfl (kM rfl rfl (kO rfl (a_add rfl rfl (by omega) (kM rfl rfl (kM rfl rfl (kO rfl (a_add rfl rfl (by decide) (kO rfl (a_mul rfl rfl (by omega) (kM rfl rfl ?_))))))))))))))))))))))))))))))))))
     refine kO rfl (a_add rfl rfl (by decide) (kO rfl (a_mul rfl rfl (by omega) (kG rfl rfl (a_inl rfl rfl bw156_at rfl ?_)))))
     unfold bw156
     refine rI (kM rfl rfl (kO rfl (a_nilc rfl (kO rfl (a_fa rfl (kO rfl (a_ld rfl (.next (.next .here)) rfl (kM rfl rfl (kO rfl (a_ia (j := i + 1) rfl rfl (by omega) (by omega) (kO rfl (a_ldX (x := (W l k).getD (i + 1) 0) rfl (.next (.next (.next .here))) (by simp [wlen]; omega) (by first | rfl | (rw [getD_set_ne (by omega), getD_set_ne (by omega)]; done) | (rw [getD_set_ne (by omega)]; done)) (kM rfl rfl (kO rfl (a_add rfl rfl (by omega) (kO rfl (a_ia (j := i + 1) rfl rfl (by omega) (by omega) (kZ rfl (a_stI rfl rfl (.next (.next (.next .here))) (by first | omega | (simp; done) | (simp [wlen]; omega) | (simp; omega)) (i_nil (endD0n .nil (i_nil (rI (kM rfl rfl (kM rfl rfl (kO rfl (a_add rfl rfl (by omega) (kM rfl rfl (kG rfl rfl (a_inl rfl rfl bw156_at rfl ?_))))))))))))))))))))))))))))))
     unfold bw156
     refine rI (kM rfl rfl (kO rfl (a_nilc rfl (kO rfl (a_fa rfl (kO rfl (a_ld rfl (.next (.next .here)) rfl (kM rfl rfl (kO rfl (a_ia (j := i + 2) rfl rfl (by omega) (by omega) (kO rfl (a_ldX (x := (W l k).getD (i + 2) 0) rfl (.next (.next (.next .here))) (by simp [wlen]; omega) (by first | rfl | (rw [getD_set_ne (by omega), getD_set_ne (by omega)]; done) | (rw [getD_set_ne (by omega)]; done)) (kM rfl rfl (kO rfl (a_add rfl rfl (by omega) (kO rfl (a_ia (j := i + 2) rfl rfl (by omega) (by omega) (kZ rfl (a_stI rfl rfl (.next (.next (.next .here))) (by first | omega | (simp; done) | (simp [wlen]; omega) | (simp; omega)) (i_nil (endD0n .nil (i_nil (endD0n .nil (i_nil (block_n (then_n (rI (kO rfl (a_add rfl rfl (by omega) (kM rfl rfl (i_nil (then_n ?_))))))))))))))))))))))))))))))))
     exact ⟨rfl, _, _, _, (show (grs l 0).length - (k + 1) < (grs l 0).length - k by omega), (lc 0 rfl (lc 1 rfl (lc 7 rfl (lc 8 rfl (lc 9 rfl Less.nil))))), (.cons _ (.cons_cons _ (.cons_cons _ (.cons_cons _ .slnil)))), ⟨k + 1, rfl, (by first
  | (rw [W_one hgk hm1]; first | done | rfl)
  | (rw [W_two hgk hm2 hk]; unfold step2; dsimp only; rw [if_pos (by assumption)]; first | done | rfl)
  | (rw [W_two hgk hm2 hk]; unfold step2; dsimp only; rw [if_neg (by assumption)]; first | done | rfl)), rfl, by omega⟩⟩
    ·refine i_nil (r_cond_f rfl (r_skip (then_n (rS (kM rfl rfl (kM rfl rfl (kM rfl rfl (kG rfl rfl (a_inl rfl rfl bw156_at rfl ?_)))))))))
     unfold bw156
     refine rI (kM rfl rfl (kO rfl (a_nilc rfl (kO rfl (a_fa rfl (kO rfl (a_ld rfl (.next (.next .here)) rfl (kM rfl rfl (kO rfl (a_ia (j := i) rfl rfl (by omega) (by omega) (kO rfl (a_ldX (x := (W l k).getD (i) 0) rfl (.next (.next (.next .here))) (by simp [wlen]; omega) (by first | rfl | (rw [getD_set_ne (by omega), getD_set_ne (by omega)]; done) | (rw [getD_set_ne (by omega)]; done)) (kM rfl rfl (kO rfl (a_add rfl rfl (by omega) (kO rfl (a_ia (j := i) rfl rfl (by omega) (by omega) (kZ rfl (a_stI rfl rfl (.next (.next (.next .here))) (by first | omega | (simp; done) | (simp [wlen]; omega) | (simp; omega)) (i_nil (endD0n .nil (i_nil (rS (kM rfl rfl (kM rfl rfl (kO rfl (a_add rfl rfl (by omega) (kM rfl rfl (kM rfl rfl (kO rfl (a_add rfl rfl (by decide) (kO rfl (a_mul rfl rfl (by omega) (kM rfl rfl ?_))))))))))))))))))))))))))))))))))
     refine kO rfl (a_add rfl rfl (by decide) (kO rfl (a_mul rfl rfl (by omega) (kG rfl rfl (a_inl rfl rfl bw156_at rfl ?_)))))
     unfold bw156
     refine rI (kM rfl rfl (kO rfl (a_nilc rfl (kO rfl (a_fa rfl (kO rfl (a_ld rfl (.next (.next .here)) rfl (kM rfl rfl (kO rfl (a_ia (j := i + 1) rfl rfl (by omega) (by omega) (kO rfl (a_ldX (x := (W l k).getD (i + 1) 0) rfl (.next (.next (.next .here))) (by simp [wlen]; omega) (by first | rfl | (rw [getD_set_ne (by omega), getD_set_ne (by omega)]; done) | (rw [getD_set_ne (by omega)]; done)) (kM rfl rfl (kO rfl (a_add rfl rfl (by omega) (kO rfl (a_ia (j := i + 1) rfl rfl (by omega) (by omega) (kZ rfl (a_stI rfl rfl (.next (.next (.next .here))) (by first | omega | (simp; done) | (simp [wlen]; omega) | (simp; omega)) (i_nil (endD0n .nil (i_nil (rI (kM rfl rfl (kM rfl rfl (kO rfl (a_add rfl rfl (by omega) (kM rfl rfl (kG rfl rfl (a_inl rfl rfl bw156_at rfl ?_))))))))))))))))))))))))))))))
     unfold bw156
     refine rI (kM rfl rfl (kO rfl (a_nilc rfl (kO rfl (a_fa rfl (kO rfl (a_ld rfl (.next (.next .here)) rfl (kM rfl rfl (kO rfl (a_ia (j := i + 2) rfl rfl (by omega) (by omega) (kO rfl (a_ldX (x := (W l k).getD (i + 2) 0) rfl (.next (.next (.next .here))) (by simp [wlen]; omega) (by first | rfl | (rw [getD_set_ne (by omega), getD_set_ne (by omega)]; done) | (rw [getD_set_ne (by omega)]; done)) (kM rfl rfl (kO rfl (a_add rfl rfl (by omega) (kO rfl (a_ia (j := i + 2) rfl rfl (by omega) (by omega) (kZ rfl (a_stI rfl rfl (.next (.next (.next .here))) (by first | omega | (simp; done) | (simp [wlen]; omega) | (simp; omega)) (i_nil (endD0n .nil (i_nil (endD0n .nil (i_nil (block_n (then_n (rI (kO rfl (a_add rfl rfl (by omega) (kM rfl rfl (i_nil (then_n ?_))))))))))))))))))))))))))))))))
     exact ⟨rfl, _, _, _, (show (grs l 0).length - (k + 1) < (grs l 0).length - k by omega), (lc 0 rfl (lc 1 rfl (lc 7 rfl (lc 8 rfl (lc 9 rfl Less.nil))))), (.cons _ (.cons_cons _ (.cons_cons _ (.cons_cons _ .slnil)))), ⟨k + 1, rfl, (by first
  | (rw [W_one hgk hm1]; first | done | rfl)
  | (rw [W_two hgk hm2 hk]; unfold step2; dsimp only; rw [if_pos (by assumption)]; first | done | rfl)
  | (rw [W_two hgk hm2 hk]; unfold step2; dsimp only; rw [if_neg (by assumption)]; first | done | rfl)), rfl, by omega⟩⟩
   ·rw [hk]
    refine kM rfl rfl (i_nil (rS (kM rfl rfl (kO rfl (a_quoc (q := 2) rfl rfl (by decide) rfl (by decide) (kM rfl rfl (kO rfl (a_add rfl rfl (by decide) (kO rfl (a_mul rfl rfl (by decide) (kM rfl rfl (kM rfl rfl (kO rfl (a_min rfl (kO rfl (a_mul rfl rfl (by omega) (kM rfl rfl (i_nil (rS (kM rfl rfl (kM rfl rfl (kO rfl (a_mul rfl rfl (by omega) (kM rfl rfl (kO rfl (a_sub rfl rfl (by decide) (kO rfl (a_mul rfl rfl (by omega) (kM rfl rfl (kM rfl rfl (kO rfl (a_mul rfl rfl (by decide) ?_))))))))))))))))))))))))))))))))
    refine kO rfl (a_sub rfl rfl (by decide) (kO rfl (a_mul rfl rfl (by omega) (kM rfl rfl (kM rfl rfl (i_nil (rQ (rS (kM rfl rfl (kM rfl rfl (kO rfl (a_gtr rfl rfl (fun h15 => ?_) (fun h15 => ?_)))))))))))))
    ·refine i_nil (r_cond_t rfl (rI (kM rfl rfl (kM rfl rfl (kM rfl rfl (kM rfl rfl (i_nil (then_n (rS (kM rfl rfl (kM rfl rfl (kM rfl rfl (kG rfl rfl (a_inl rfl rfl bw156_at rfl ?_))))))))))))))
     unfold bw156
     refine rI (kM rfl rfl (kO rfl (a_nilc rfl (kO rfl (a_fa rfl (kO rfl (a_ld rfl (.next (.next .here)) rfl (kM rfl rfl (kO rfl (a_ia (j := i) rfl rfl (by omega) (by omega) (kO rfl (a_ldX (x := (W l k).getD (i) 0) rfl (.next (.next (.next .here))) (by simp [wlen]; omega) (by first | rfl | (rw [getD_set_ne (by omega), getD_set_ne (by omega)]; done) | (rw [getD_set_ne (by omega)]; done)) (kM rfl rfl (kO rfl (a_add rfl rfl (by omega) (kO rfl (a_ia (j := i) rfl rfl (by omega) (by omega) (kZ rfl (a_stI rfl rfl (.next (.next (.next .here))) (by first | omega | (simp; done) | (simp [wlen]; omega) | (simp; omega)) (i_nil (endD0n .nil (i_nil (rS (kM rfl rfl (kM rfl rfl (kO rfl (a_add rfl rfl (by omega) (kM rfl rfl (kM rfl rfl (kO rfl (a_add rfl rfl (by decide) (kO rfl (a_mul rfl rfl (by omega) (kM rfl rfl ?_))))))))))))))))))))))))))))))))))
     refine kO rfl (a_add rfl rfl (by decide) (kO rfl (a_mul rfl rfl (by omega) (kG rfl rfl (a_inl rfl rfl bw156_at rfl ?_)))))
     unfold bw156
     refine rI (kM rfl rfl (kO rfl (a_nilc rfl (kO rfl (a_fa rfl (kO rfl (a_ld rfl (.next (.next .here)) rfl (kM rfl rfl (kO rfl (a_ia (j := i + 1) rfl rfl (by omega) (by omega) (kO rfl (a_ldX (x := (W l k).getD (i + 1) 0) rfl (.next (.next (.next .here))) (by simp [wlen]; omega) (by first | rfl | (rw [getD_set_ne (by omega), getD_set_ne (by omega)]; done) | (rw [getD_set_ne (by omega)]; done)) (kM rfl rfl (kO rfl (a_add rfl rfl (by omega) (kO rfl (a_ia (j := i + 1) rfl rfl (by omega) (by omega) (kZ rfl (a_stI rfl rfl (.next (.next (.next .here))) (by first | omega | (simp; done) | (simp [wlen]; omega) | (simp; omega)) (i_nil (endD0n .nil (i_nil (rI (kM rfl rfl (kM rfl rfl (kO rfl (a_add rfl rfl (by omega) (kM rfl rfl (kG rfl rfl (a_inl rfl rfl bw156_at rfl ?_))))))))))))))))))))))))))))))
     unfold bw156
     refine rI (kM rfl rfl (kO rfl (a_nilc rfl (kO rfl (a_fa rfl (kO rfl (a_ld rfl (.next (.next .here)) rfl (kM rfl rfl (kO rfl (a_ia (j := i + 2) rfl rfl (by omega) (by omega) (kO rfl (a_ldX (x := (W l k).getD (i + 2) 0) rfl (.next (.next (.next .here))) (by simp [wlen]; omega) (by first | rfl | (rw [getD_set_ne (by omega), getD_set_ne (by omega)]; done) | (rw [getD_set_ne (by omega)]; done)) (kM rfl rfl (kO rfl (a_add rfl rfl (by omega) (kO rfl (a_ia (j := i + 2) rfl rfl (by omega) (by omega) (kZ rfl (a_stI rfl rfl (.next (.next (.next .here))) (by first | omega | (simp; done) | (simp [wlen]; omega) | (simp; omega)) (i_nil (endD0n .nil (i_nil (endD0n .nil (i_nil (block_n (then_n (rI (kO rfl (a_add rfl rfl (by omega) (kM rfl rfl (i_nil (then_n ?_))))))))))))))))))))))))))))))))
     exact ⟨rfl, _, _, _, (show (grs l 0).length - (k + 1) < (grs l 0).length - k by omega), (lc 0 rfl (lc 1 rfl (lc 7 rfl (lc 8 rfl (lc 9 rfl Less.nil))))), (.cons _ (.cons_cons _ (.cons_cons _ (.cons_cons _ .slnil)))), ⟨k + 1, rfl, (by first
  | (rw [W_one hgk hm1]; first | done | rfl)
  | (rw [W_two hgk hm2 hk]; unfold step2; dsimp only; rw [if_pos (by assumption)]; first | done | rfl)
  | (rw [W_two hgk hm2 hk]; unfold step2; dsimp only; rw [if_neg (by assumption)]; first | done | rfl)), rfl, by omega⟩⟩
    ·refine i_nil (r_cond_f rfl (r_skip (then_n (rS (kM rfl rfl (kM rfl rfl (kM rfl rfl (kG rfl rfl (a_inl rfl rfl bw156_at rfl ?_)))))))))
     unfold bw156
     refine rI (kM rfl rfl (kO rfl (a_nilc rfl (kO rfl (a_fa rfl (kO rfl (a_ld rfl (.next (.next .here)) rfl (kM rfl rfl (kO rfl (a_ia (j := i) rfl rfl (by omega) (by omega) (kO rfl (a_ldX (x := (W l k).getD (i) 0) rfl (.next (.next (.next .here))) (by simp [wlen]; omega) (by first | rfl | (rw [getD_set_ne (by omega), getD_set_ne (by omega)]; done) | (rw [getD_set_ne (by omega)]; done)) (kM rfl rfl (kO rfl (a_add rfl rfl (by omega) (kO rfl (a_ia (j := i) rfl rfl (by omega) (by omega) (kZ rfl (a_stI rfl rfl (.next (.next (.next .here))) (by first | omega | (simp; done) | (simp [wlen]; omega) | (simp; omega)) (i_nil (endD0n .nil (i_nil (rS (kM rfl rfl (kM rfl rfl (kO rfl (a_add rfl rfl (by omega) (kM rfl rfl (kM rfl rfl (kO rfl (a_add rfl rfl (by decide) (kO rfl (a_mul rfl rfl (by omega) (kM rfl rfl ?_))))))))))))))))))))))))))))))))))
     refine kO rfl (a_add rfl rfl (by decide) (kO rfl (a_mul rfl rfl (by omega) (kG rfl rfl (a_inl rfl rfl bw156_at rfl ?_)))))
     unfold bw156
     refine rI (kM rfl rfl (kO rfl (a_nilc rfl (kO rfl (a_fa rfl (kO rfl (a_ld rfl (.next (.next .here)) rfl (kM rfl rfl (kO rfl (a_ia (j := i + 1) rfl rfl (by omega) (by omega) (kO rfl (a_ldX (x := (W l k).getD (i + 1) 0) rfl (.next (.next (.next .here))) (by simp [wlen]; omega) (by first | rfl | (rw [getD_set_ne (by omega), getD_set_ne (by omega)]; done) | (rw [getD_set_ne (by omega)]; done)) (kM rfl rfl (kO rfl (a_add rfl rfl (by omega) (kO rfl (a_ia (j := i + 1) rfl rfl (by omega) (by omega) (kZ rfl (a_stI rfl rfl (.next (.next (.next .here))) (by first | omega | (simp; done) | (simp [wlen]; omega) | (simp; omega)) (i_nil (endD0n .nil (i_nil (rI (kM rfl rfl (kM rfl rfl (kO rfl (a_add rfl rfl (by omega) (kM rfl rfl (kG rfl rfl (a_inl rfl rfl bw156_at rfl ?_))))))))))))))))))))))))))))))
     unfold bw156
     refine rI (kM rfl rfl (kO rfl (a_nilc rfl (kO rfl (a_fa rfl (kO rfl (a_ld rfl (.next (.next .here)) rfl (kM rfl rfl (kO rfl (a_ia (j := i + 2) rfl rfl (by omega) (by omega) (kO rfl (a_ldX (x := (W l k).getD (i + 2) 0) rfl (.next (.next (.next .here))) (by simp [wlen]; omega) (by first | rfl | (rw [getD_set_ne (by omega), getD_set_ne (by omega)]; done) | (rw [getD_set_ne (by omega)]; done)) (kM rfl rfl (kO rfl (a_add rfl rfl (by omega) (kO rfl (a_ia (j := i + 2) rfl rfl (by omega) (by omega) (kZ rfl (a_stI rfl rfl (.next (.next (.next .here))) (by first | omega | (simp; done) | (simp [wlen]; omega) | (simp; omega)) (i_nil (endD0n .nil (i_nil (endD0n .nil (i_nil (block_n (then_n (rI (kO rfl (a_add rfl rfl (by omega) (kM rfl rfl (i_nil (then_n ?_))))))))))))))))))))))))))))))))
     exact ⟨rfl, _, _, _, (show (grs l 0).length - (k + 1) < (grs l 0).length - k by omega), (lc 0 rfl (lc 1 rfl (lc 7 rfl (lc 8 rfl (lc 9 rfl Less.nil))))), (.cons _ (.cons_cons _ (.cons_cons _ (.cons_cons _ .slnil)))), ⟨k + 1, rfl, (by first
  | (rw [W_one hgk hm1]; first | done | rfl)
  | (rw [W_two hgk hm2 hk]; unfold step2; dsimp only; rw [if_pos (by assumption)]; first | done | rfl)
  | (rw [W_two hgk hm2 hk]; unfold step2; dsimp only; rw [if_neg (by assumption)]; first | done | rfl)), rfl, by omega⟩⟩
 ·refine i_nil (rQ (r_cond_f rfl (r_exit (then_e (then_e (block_hit (endD0n .nil (i_nil (rS (kO rfl (a_fa rfl (kO rfl (a_ld rfl (.next .here) rfl (kM rfl rfl (i_nil (r_ret ?_))))))))))))))))
  exact end1A rfl (.cons _ (.cons _ (.cons_cons _ .slnil))) ⟨b1, rfl, by rw [W_end (by omega)]⟩

end
end Ev
end Go.Proofs.YtonbhokaeodmdaaGreat
