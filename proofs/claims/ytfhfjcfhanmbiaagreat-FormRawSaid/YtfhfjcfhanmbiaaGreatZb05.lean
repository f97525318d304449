import Derived.Test.YtfhfjcfhanmbiaaGreatZb03
import Derived.Test.YtfhfjcfhanmbiaaGreatZb04
set_option linter.unusedVariables false
set_option linter.unusedSimpArgs false
/- Contracts: numbers, positions. -/
namespace Go.Proofs.YtfhfjcfhanmbiaaGreat
open Go Go.RowKit
namespace Ev
def inB (lo hi : Int) (l : List Int) : Bool := l.all fun x => decide (lo ≤ x ∧ x ≤ hi)
theorem in_step {lo hi : Int} {l : List Int} {k : Nat} (hk : k < l.length) : inB lo hi (l.drop k) = (decide (lo ≤ l.getD k 0 ∧ l.getD k 0 ≤ hi) && inB lo hi (l.drop (k + 1))) := by
  rw [List.drop_eq_getElem_cons hk, List.getD_eq_getElem?_getD, List.getElem?_eq_getElem hk]; rfl
theorem in_bad {lo hi : Int} {l : List Int} {k : Nat} (hk : k < l.length) (hi' : inB lo hi l = inB lo hi (l.drop k)) (h : ¬ (lo ≤ l.getD k 0 ∧ l.getD k 0 ≤ hi)) : inB lo hi l = false := by
  rw [hi', in_step hk, decide_eq_false h]; rfl
theorem in_good {lo hi : Int} {l : List Int} {k : Nat} (hk : k < l.length) (hi' : inB lo hi l = inB lo hi (l.drop k)) (h : lo ≤ l.getD k 0 ∧ l.getD k 0 ≤ hi) : inB lo hi l = inB lo hi (l.drop (k + 1)) := by
  rw [hi', in_step hk, decide_eq_true h]; rfl
theorem in_end {lo hi : Int} {l : List Int} {k : Nat} (hi' : inB lo hi l = inB lo hi (l.drop k)) (hk : l.length ≤ k) : inB lo hi l = true := by
  rw [hi', List.drop_eq_nil_of_le hk]; rfl
theorem in_all {lo hi : Int} {l : List Int} (h : inB lo hi l = true) {k : Nat} (hk : k < l.length) : lo ≤ l.getD k 0 ∧ l.getD k 0 ≤ hi := by
  have := List.all_eq_true.1 h _ (getD_mem hk)
  simpa using this
def risB : List Int → Bool
  | a :: b :: l => decide (a < b) && risB (b :: l)
  | _ => true
theorem ris_step {l : List Int} {k : Nat} (hk : k + 1 < l.length) : risB (l.drop k) = (decide (l.getD k 0 < l.getD (k + 1) 0) && risB (l.drop (k + 1))) := by
  rw [List.drop_eq_getElem_cons (show k < l.length by omega), List.drop_eq_getElem_cons hk, List.getD_eq_getElem?_getD, List.getD_eq_getElem?_getD, List.getElem?_eq_getElem (show k < l.length by omega), List.getElem?_eq_getElem hk]; rfl
theorem ris_bad {l : List Int} {k : Nat} (hk : k + 1 < l.length) (hi : risB l = risB (l.drop k)) (h : ¬ l.getD k 0 < l.getD (k + 1) 0) : risB l = false := by
  rw [hi, ris_step hk, decide_eq_false h]; rfl
theorem ris_good {l : List Int} {k : Nat} (hk : k + 1 < l.length) (hi : risB l = risB (l.drop k)) (h : l.getD k 0 < l.getD (k + 1) 0) : risB l = risB (l.drop (k + 1)) := by
  rw [hi, ris_step hk, decide_eq_true h]; rfl
theorem ris_end {l : List Int} {k : Nat} (hi : risB l = risB (l.drop k)) (hk : l.length ≤ k + 1) : risB l = true := by
  rw [hi]
  by_cases h : k < l.length
  · rw [List.drop_eq_getElem_cons h, List.drop_eq_nil_of_le (by omega)]; rfl
  · rw [List.drop_eq_nil_of_le (by omega)]; rfl
theorem ris_all {l : List Int} (h : risB l = true) : ∀ {k : Nat}, k + 1 < l.length → risB (l.drop k) = true ∧ l.getD k 0 < l.getD (k + 1) 0
  | 0, hk => by
    have h0 : risB (l.drop 0) = true := h
    refine ⟨h0, ?_⟩
    rw [ris_step hk, Bool.and_eq_true] at h0
    exact of_decide_eq_true h0.1
  | k + 1, hk => by
    have h1 := (ris_all h (k := k) (by omega)).1
    rw [ris_step (by omega), Bool.and_eq_true] at h1
    have h2 := h1.2
    refine ⟨h2, ?_⟩
    rw [ris_step hk, Bool.and_eq_true] at h2
    exact of_decide_eq_true h2.1
/-- Positions, at most so many, each at most so great. -/
def plcB (m : Int) (hi : Int) (l : List Int) : Bool := decide (2 ≤ (l.length : Int) ∧ (l.length : Int) ≤ m) && inB 0 hi l && risB l
theorem plc_no1 {m hi : Int} {l : List Int} (h : ¬ (2 ≤ (l.length : Int) ∧ (l.length : Int) ≤ m)) : plcB m hi l = false := by
  unfold plcB; rw [decide_eq_false h]; rfl
theorem plc_no2 {m hi : Int} {l : List Int} (h : inB 0 hi l = false) : plcB m hi l = false := by
  unfold plcB; rw [h]; simp
theorem plc_no3 {m hi : Int} {l : List Int} (h : risB l = false) : plcB m hi l = false := by
  unfold plcB; rw [h]; simp
theorem plc_yes {m hi : Int} {l : List Int} (h : 2 ≤ (l.length : Int) ∧ (l.length : Int) ≤ m) (h2 : inB 0 hi l = true) (h3 : risB l = true) : plcB m hi l = true := by
  unfold plcB; rw [decide_eq_true h, h2, h3]; rfl
structure Plc (m : Int) (hi : Int) (l : List Int) : Prop where
  h2 : 2 ≤ l.length
  hm : (l.length : Int) ≤ m
  lo : ∀ k, 0 ≤ l.getD k 0 ∧ l.getD k 0 ≤ hi
  rise : ∀ k, k + 1 < l.length → l.getD k 0 < l.getD (k + 1) 0
theorem plc_of {m hi : Int} {l : List Int} (h0 : 0 ≤ hi) (h : plcB m hi l = true) : Plc m hi l := by
  unfold plcB at h
  rw [Bool.and_eq_true, Bool.and_eq_true] at h
  obtain ⟨⟨h1, h2⟩, h3⟩ := h
  have h1 := of_decide_eq_true h1
  refine ⟨by omega, h1.2, fun k => ?_, fun k hk => (ris_all h3 hk).2⟩
  by_cases hk : k < l.length
  · exact in_all h2 hk
  · rw [List.getD_eq_getElem?_getD, List.getElem?_eq_none (by omega)]; exact ⟨Int.le_refl _, h0⟩

section
variable {X : FuncId → List Value → St → (Value → St → Bool) → Bool}
theorem inside_s (n : Nat) (x lo hi : Int) (s : St) (hs : Wf s) : Spec Tryz.prog (tabK tabw) X (n + 20) 47 [.int .i64 x, .int .i64 lo, .int .i64 hi] s (fun v A => v = .bool (decide (lo ≤ x ∧ x ≤ hi)) ∧ A = []) := by
 refine enter bw47_at rfl hs ?_
 unfold bw47
 refine rS (kM rfl rfl (i_nil (rS (kM rfl rfl (kM rfl rfl (kO rfl (a_leq rfl rfl (fun h1 => ?_) (fun h1 => ?_))))))))
 ·refine kM rfl rfl (kG rfl rfl (a_mov rfl (kG rfl rfl (a_mov rfl (kG rfl rfl (a_leq rfl rfl (fun h2 => ?_) (fun h2 => ?_)))))))
  ·refine kO rfl (a_pick_t rfl rfl rfl (kM rfl rfl (i_nil (r_ret (end1 rfl ⟨congrArg Value.bool ?_, rfl⟩)))))
   first | exact (decide_eq_true (by omega)).symm | exact (decide_eq_false (by omega)).symm
  ·refine kO rfl (a_pick_t rfl rfl rfl (kM rfl rfl (i_nil (r_ret (end1 rfl ⟨congrArg Value.bool ?_, rfl⟩)))))
   first | exact (decide_eq_true (by omega)).symm | exact (decide_eq_false (by omega)).symm
 ·refine kM rfl rfl (i_no rfl rfl (i_no rfl rfl (i_no rfl rfl (kO rfl (a_pick_f rfl rfl rfl (kM rfl rfl (i_nil (r_ret (end1 rfl ⟨congrArg Value.bool ?_, rfl⟩)))))))))
  first | exact (decide_eq_true (by omega)).symm | exact (decide_eq_false (by omega)).symm

theorem In_s (n : Nat) (x lo hi : Int) (s : St) (hs : Wf s) : Spec Tryz.prog (tabK tabw) X (n + 20) 43 [.int .i64 x, .int .i64 lo, .int .i64 hi] s (fun v A => v = .bool (decide (lo ≤ x ∧ x ≤ hi)) ∧ A = []) := by
 refine enter bw43_at rfl hs ?_
 unfold bw43
 refine rS (kM rfl rfl (i_nil (rS (kM rfl rfl (kM rfl rfl (kO rfl (a_geq rfl rfl (fun h1 => ?_) (fun h1 => ?_))))))))
 ·refine kM rfl rfl (kG rfl rfl (a_mov rfl (kG rfl rfl (a_mov rfl (kG rfl rfl (a_leq rfl rfl (fun h2 => ?_) (fun h2 => ?_)))))))
  ·refine kO rfl (a_pick_t rfl rfl rfl (kM rfl rfl (i_nil (r_ret (end1 rfl ⟨congrArg Value.bool ?_, rfl⟩)))))
   first | exact (decide_eq_true (by omega)).symm | exact (decide_eq_false (by omega)).symm
  ·refine kO rfl (a_pick_t rfl rfl rfl (kM rfl rfl (i_nil (r_ret (end1 rfl ⟨congrArg Value.bool ?_, rfl⟩)))))
   first | exact (decide_eq_true (by omega)).symm | exact (decide_eq_false (by omega)).symm
 ·refine kM rfl rfl (i_no rfl rfl (i_no rfl rfl (i_no rfl rfl (kO rfl (a_pick_f rfl rfl rfl (kM rfl rfl (i_nil (r_ret (end1 rfl ⟨congrArg Value.bool ?_, rfl⟩)))))))))
  first | exact (decide_eq_true (by omega)).symm | exact (decide_eq_false (by omega)).symm

theorem isSource_s (n : Nat) (x : Int) (s : St) (hs : Wf s) : Spec Tryz.prog (tabK tabw) X (n + 30) 46 [.int .i64 x] s (fun v A => v = .bool (decide (1 ≤ x ∧ x ≤ 99999)) ∧ A = []) := by
 refine enter bw46_at rfl hs ?_
 unfold bw46
 refine rS (kM rfl rfl (i_nil (rS (kM rfl rfl (kO rfl (a_callB rfl rfl (fun s1 h1 => inside_s _ _ _ _ s1 h1.wf) (fun h1 => ?_) (fun h1 => ?_)))))))
 ·refine kM rfl rfl (i_nil (r_ret (end1 rfl ⟨congrArg Value.bool ?_, rfl⟩)))
  first | exact (decide_eq_true (by omega)).symm | exact (decide_eq_false (by omega)).symm
 ·refine kM rfl rfl (i_nil (r_ret (end1 rfl ⟨congrArg Value.bool ?_, rfl⟩)))
  first | exact (decide_eq_true (by omega)).symm | exact (decide_eq_false (by omega)).symm

theorem within_s (n : Nat) (a : Option Addr) (cap : Nat) (l : List Int) (lo hi : Int) (s : St) (hs : Wf s) (hn : 281474976710656 ≤ n) (hl : IntsE s a l) : Spec Tryz.prog (tabK tabw) X (n + 100) 128 [.slice a l.length cap, .int .i64 lo, .int .i64 hi] s (fun v A => v = .bool (inB lo hi l) ∧ A = []) := by
 refine enter bw128_at rfl hs ?_
 unfold bw128
 have hlen := hl.len
 refine rS (kM rfl rfl (i_nil (rQ (rS (kM rfl rfl (kO rfl (a_lenx rfl hl.spot (kM rfl rfl (i_nil (r_block (r_loop (fun j e A => ∃ (k : Nat), e = [(9, .slice a l.length cap), (10, .int .i64 (l.length : Int)), (11, .int .i64 (k : Int)), (1, .int .i64 lo), (2, .int .i64 hi)] ∧ A = [] ∧ j = l.length - k ∧ k ≤ l.length ∧ inB lo hi l = inB lo hi (l.drop k)) 60 0 281474976710656 ?_ (j := _) (env2 := _) (A2 := _) ?_ ?_ ?_ ?_ ⟨0, rfl, rfl, rfl, Nat.zero_le _, rfl⟩)))))))))))
 rotate_left
 ·omega
 ·omega
 ·exact (lc 9 rfl (lc 10 rfl (lc 11 rfl (lc 1 rfl (lc 2 rfl Less.nil)))))
 ·exact .slnil
 rintro n hn j _ _ ⟨k, rfl, rfl, rfl, hk, hi'⟩
 refine rS (kO rfl (a_lss rfl rfl (fun h1 => ?_) (fun h1 => ?_)))
 ·refine i_nil (rQ (r_cond_t rfl (r_skip (then_n (rQ (r_block (rS (kO rfl (a_iaI (j := k) hl rfl rfl (by omega) (by simp) (by omega) (fun _ _ a2 => (kO rfl (a_ldr rfl (hl.at a2 (by omega)) (kM rfl rfl (i_nil (rS (kM rfl rfl (kM rfl rfl (kO rfl (a_lss rfl rfl (fun h3 => ?_) (fun h3 => ?_))))))))))))))))))))
  ·refine kM rfl rfl (i_no rfl rfl (i_no rfl rfl (i_no rfl rfl (kO rfl (a_pick_t rfl rfl rfl (i_nil (r_cond_t rfl (rS (kM rfl rfl (i_nil (r_ret (block_r (then_r (then_r (block_r (then_r (end1 rfl ⟨congrArg Value.bool ?_, rfl⟩)))))))))))))))))
   first
    | exact (in_bad (by omega) hi' (by omega)).symm
    | exact (in_end hi' (by omega)).symm
  ·refine kM rfl rfl (kG rfl rfl (a_mov rfl (kG rfl rfl (a_mov rfl (kG rfl rfl (a_gtr rfl rfl (fun h4 => ?_) (fun h4 => ?_)))))))
   ·refine kO rfl (a_pick_f rfl rfl rfl (i_nil (r_cond_t rfl (rS (kM rfl rfl (i_nil (r_ret (block_r (then_r (then_r (block_r (then_r (end1 rfl ⟨congrArg Value.bool ?_, rfl⟩)))))))))))))
    first
     | exact (in_bad (by omega) hi' (by omega)).symm
     | exact (in_end hi' (by omega)).symm
   ·refine kO rfl (a_pick_f rfl rfl rfl (i_nil (r_cond_f rfl (r_skip (block_n (then_n (rI (kO rfl (a_add rfl rfl (by omega) (kM rfl rfl (i_nil (then_n ?_))))))))))))
    exact ⟨rfl, _, _, _, (show l.length - (k + 1) < l.length - k by omega), (lc 9 rfl (lc 10 rfl (lc 11 rfl (lc 1 rfl (lc 2 rfl Less.nil))))), .slnil, ⟨k + 1, rfl, rfl, rfl, by omega, in_good (by omega) hi' (by omega)⟩⟩
 ·refine i_nil (rQ (r_cond_f rfl (r_exit (then_e (then_e (block_hit (then_n (rS (kM rfl rfl (i_nil (r_ret (end1 rfl ⟨congrArg Value.bool ?_, rfl⟩))))))))))))
  first
   | exact (in_bad (by omega) hi' (by omega)).symm
   | exact (in_end hi' (by omega)).symm

theorem CheckPlaces_s (n : Nat) (a : Option Addr) (cap : Nat) (l : List Int) (s : St) (hs : Wf s) (hn : 562949953421312 ≤ n) (hl : IntsE s a l) : Spec Tryz.prog (tabK tabw) X (n + 200) 127 [.slice a l.length cap] s (fun v A => v = .int .i64 (if plcB 9 100000 l = true then 0 else 12) ∧ A = []) := by
 refine enter bw127_at rfl hs ?_
 unfold bw127
 have hlen := hl.len
 refine rS (kM rfl rfl (i_nil (rQ (rS (kM rfl rfl (kO rfl (a_lenx rfl hl.spot (kO rfl (a_lss rfl rfl (fun h1 => ?_) (fun h1 => ?_))))))))))
 ·refine kM rfl rfl (i_no rfl rfl (i_no rfl rfl (i_no rfl rfl (kO rfl (a_pick_t rfl rfl rfl (kM rfl rfl (i_no rfl rfl (i_no rfl rfl (i_no rfl rfl (kO rfl (a_pick_t rfl rfl rfl (i_nil (r_cond_t rfl (rS (kM rfl rfl (i_nil (r_ret (then_r (end1 rfl ⟨congrArg (Value.int .i64) ?_, rfl⟩)))))))))))))))))))
  first
   | (rw [plc_no1 (by omega)]; rfl)
   | (rw [plc_no2 (by assumption)]; rfl)
   | (rw [plc_no3 (ris_bad (by omega) hi' (by omega))]; rfl)
   | (rw [plc_yes (by omega) (by assumption) (ris_end hi' (by omega))]; rfl)
 ·refine kM rfl rfl (kG rfl rfl (a_mov rfl (kG rfl rfl (a_lenx rfl hl.spot (kG rfl rfl (a_gtr rfl rfl (fun h2 => ?_) (fun h2 => ?_)))))))
  ·refine kO rfl (a_pick_f rfl rfl rfl (kM rfl rfl (i_no rfl rfl (i_no rfl rfl (i_no rfl rfl (kO rfl (a_pick_t rfl rfl rfl (i_nil (r_cond_t rfl (rS (kM rfl rfl (i_nil (r_ret (then_r (end1 rfl ⟨congrArg (Value.int .i64) ?_, rfl⟩)))))))))))))))
   first
    | (rw [plc_no1 (by omega)]; rfl)
    | (rw [plc_no2 (by assumption)]; rfl)
    | (rw [plc_no3 (ris_bad (by omega) hi' (by omega))]; rfl)
    | (rw [plc_yes (by omega) (by assumption) (ris_end hi' (by omega))]; rfl)
  ·refine kO rfl (a_pick_f rfl rfl rfl (kM rfl rfl (kG rfl rfl (a_mov rfl (kG rfl rfl (a_callb rfl rfl (fun s1 h1 => within_s _ _ _ _ _ _ s1 h1.wf (by omega) (hl.ext hs h1.2.1)) (fun h3 => ?_) (fun h3 => ?_)))))))
   ·refine kG rfl rfl (a_not rfl (kO rfl (a_pick_f rfl rfl rfl (i_nil (r_cond_f rfl (r_skip (then_n (rQ (rS (kM rfl rfl (kO rfl (a_lenx rfl hl.spot (kO rfl (a_sub rfl rfl (by omega) (kM rfl rfl (i_nil (r_block (r_loop (fun j e A => ∃ (k : Nat), e = [(0, .slice a l.length cap), (19, .int .i64 ((l.length : Int) - 1)), (20, .int .i64 (k : Int))] ∧ A = [] ∧ j = l.length - k ∧ k + 1 ≤ l.length ∧ risB l = risB (l.drop k)) 90 0 281474976710656 ?_ (j := _) (env2 := _) (A2 := _) ?_ ?_ ?_ ?_ ⟨0, rfl, rfl, rfl, by omega, rfl⟩))))))))))))))))))
    rotate_left
    ·omega
    ·omega
    ·exact (lc 0 rfl (lc 19 rfl (lc 20 rfl Less.nil)))
    ·exact .slnil
    rintro n hn j _ _ ⟨k, rfl, rfl, rfl, hk, hi'⟩
    refine rS (kO rfl (a_lss rfl rfl (fun h4 => ?_) (fun h4 => ?_)))
    ·refine i_nil (rQ (r_cond_t rfl (r_skip (then_n (rQ (r_block (rS (kM rfl rfl (kM rfl rfl (i_nil (rS (kM rfl rfl (kM rfl rfl (kO rfl (a_iaI (j := k) hl rfl rfl (by omega) (by simp) (by omega) (fun _ _ a5 => (kO rfl (a_ldr rfl (hl.at a5 (by omega)) (kM rfl rfl (kM rfl rfl (kO rfl (a_add rfl rfl (by omega) (kO rfl (a_iaI (j := k + 1) hl rfl rfl (by omega) (by simp) (by omega) (fun _ _ a6 => (kO rfl (a_ldr rfl (hl.at a6 (by omega)) (kO rfl (a_geq rfl rfl (fun h7 => ?_) (fun h7 => ?_))))))))))))))))))))))))))))))
     ·refine i_nil (r_cond_t rfl (rS (kM rfl rfl (i_nil (r_ret (block_r (then_r (then_r (block_r (then_r (end1 rfl ⟨congrArg (Value.int .i64) ?_, rfl⟩)))))))))))
      first
       | (rw [plc_no1 (by omega)]; rfl)
       | (rw [plc_no2 (by assumption)]; rfl)
       | (rw [plc_no3 (ris_bad (by omega) hi' (by omega))]; rfl)
       | (rw [plc_yes (by omega) (by assumption) (ris_end hi' (by omega))]; rfl)
     ·refine i_nil (r_cond_f rfl (r_skip (block_n (then_n (rI (kO rfl (a_add rfl rfl (by omega) (kM rfl rfl (i_nil (then_n ?_))))))))))
      exact ⟨rfl, _, _, _, (show l.length - (k + 1) < l.length - k by omega), (lc 0 rfl (lc 19 rfl (lc 20 rfl Less.nil))), .slnil, ⟨k + 1, rfl, rfl, rfl, by omega, ris_good (by omega) hi' (by omega)⟩⟩
    ·refine i_nil (rQ (r_cond_f rfl (r_exit (then_e (then_e (block_hit (then_n (rS (kM rfl rfl (i_nil (r_ret (end1 rfl ⟨congrArg (Value.int .i64) ?_, rfl⟩))))))))))))
     first
      | (rw [plc_no1 (by omega)]; rfl)
      | (rw [plc_no2 (by assumption)]; rfl)
      | (rw [plc_no3 (ris_bad (by omega) hi' (by omega))]; rfl)
      | (rw [plc_yes (by omega) (by assumption) (ris_end hi' (by omega))]; rfl)
   ·refine kG rfl rfl (a_not rfl (kO rfl (a_pick_f rfl rfl rfl (i_nil (r_cond_t rfl (rS (kM rfl rfl (i_nil (r_ret (then_r (end1 rfl ⟨congrArg (Value.int .i64) ?_, rfl⟩)))))))))))
    first
     | (rw [plc_no1 (by omega)]; rfl)
     | (rw [plc_no2 (by assumption)]; rfl)
     | (rw [plc_no3 (ris_bad (by omega) hi' (by omega))]; rfl)
     | (rw [plc_yes (by omega) (by assumption) (ris_end hi' (by omega))]; rfl)

theorem rising_s (n : Nat) (a : Option Addr) (cap : Nat) (l : List Int) (m hi : Int) (s : St) (hs : Wf s) (hn : 281474976710656 ≤ n) (hm : 2 ≤ m) (hl : IntsE s a l) : Spec Tryz.prog (tabK tabw) X (n + 200) 87 [.slice a l.length cap, .int .i64 m, .int .i64 hi] s (fun v A => v = .bool (plcB m hi l) ∧ A = []) := by
 refine enter bw87_at rfl hs ?_
 unfold bw87
 have hlen := hl.len
 refine rS (kM rfl rfl (i_nil (rQ (rS (kM rfl rfl (kO rfl (a_lenx rfl hl.spot (kO rfl (a_lss rfl rfl (fun h1 => ?_) (fun h1 => ?_))))))))))
 ·refine kM rfl rfl (i_no rfl rfl (i_no rfl rfl (i_no rfl rfl (i_no rfl rfl (kO rfl (a_pick_t rfl rfl rfl (i_nil (r_cond_t rfl (rS (kM rfl rfl (i_nil (r_ret (then_r (end1 rfl ⟨congrArg Value.bool ?_, rfl⟩))))))))))))))
  first
   | exact (plc_no1 (by omega)).symm
   | exact (plc_no2 (in_bad (by omega) hi' (by omega))).symm
   | exact (plc_no3 (ris_bad (k := k - 1) (by omega) hr' (by rw [Nat.sub_add_cancel (by omega)]; omega))).symm
   | exact (plc_yes (by omega) (in_end hi' (by omega)) (ris_end hr' (by omega))).symm
 ·refine kM rfl rfl (kG rfl rfl (a_mov rfl (kG rfl rfl (a_lenx rfl hl.spot (kG rfl rfl (a_mov rfl (kG rfl rfl (a_gtr rfl rfl (fun h2 => ?_) (fun h2 => ?_)))))))))
  ·refine kO rfl (a_pick_f rfl rfl rfl (i_nil (r_cond_t rfl (rS (kM rfl rfl (i_nil (r_ret (then_r (end1 rfl ⟨congrArg Value.bool ?_, rfl⟩)))))))))
   first
    | exact (plc_no1 (by omega)).symm
    | exact (plc_no2 (in_bad (by omega) hi' (by omega))).symm
    | exact (plc_no3 (ris_bad (k := k - 1) (by omega) hr' (by rw [Nat.sub_add_cancel (by omega)]; omega))).symm
    | exact (plc_yes (by omega) (in_end hi' (by omega)) (ris_end hr' (by omega))).symm
  ·refine kO rfl (a_pick_f rfl rfl rfl (i_nil (r_cond_f rfl (r_skip (then_n (rQ (rS (kM rfl rfl (i_nil (r_block (r_loop (fun j e A => ∃ (k : Nat), e = [(0, .slice a l.length cap), (7, .int .i64 (k : Int)), (1, .int .i64 m), (2, .int .i64 hi)] ∧ A = [] ∧ j = l.length - k ∧ k ≤ l.length ∧ inB 0 hi l = inB 0 hi (l.drop k) ∧ risB l = risB (l.drop (k - 1))) 140 0 281474976710656 ?_ (j := _) (env2 := _) (A2 := _) ?_ ?_ ?_ ?_ ⟨0, rfl, rfl, rfl, by omega, rfl, rfl⟩)))))))))))
   rotate_left
   ·omega
   ·omega
   ·exact (lc 0 rfl (lc 7 rfl (lc 1 rfl (lc 2 rfl Less.nil))))
   ·exact .slnil
   rintro n hn j _ _ ⟨k, rfl, rfl, rfl, hk, hi', hr'⟩
   refine rQ (rS (kM rfl rfl (kM rfl rfl (kO rfl (a_lenx rfl hl.spot (kO rfl (a_lss rfl rfl (fun h3 => ?_) (fun h3 => ?_))))))))
   ·refine i_nil (r_cond_t rfl (r_skip (then_n (rQ (r_block (rS (kM rfl rfl (kM rfl rfl (kO rfl (a_iaI (j := k) hl rfl rfl (by omega) (by simp) (by omega) (fun _ _ a4 => (kO rfl (a_ldr rfl (hl.at a4 (by omega)) (kO rfl (a_lss rfl rfl (fun h5 => ?_) (fun h5 => ?_))))))))))))))))
    ·refine kM rfl rfl (i_no rfl rfl (i_no rfl rfl (i_no rfl rfl (i_no rfl rfl (i_no rfl rfl (i_no rfl rfl (kO rfl (a_pick_t rfl rfl rfl (kM rfl rfl (i_no rfl rfl (i_no rfl rfl (i_no rfl rfl (i_no rfl rfl (i_no rfl rfl (i_no rfl rfl (i_no rfl rfl (i_no rfl rfl (i_no rfl rfl (i_no rfl rfl (i_no rfl rfl (i_no rfl rfl (i_no rfl rfl (i_no rfl rfl (kO rfl (a_pick_t rfl rfl rfl ?_)))))))))))))))))))))))))
     refine i_nil (r_cond_t rfl (rS (kM rfl rfl (i_nil (r_ret (block_r (then_r (then_r (block_r (then_r (end1 rfl ⟨congrArg Value.bool ?_, rfl⟩)))))))))))
     first
      | exact (plc_no1 (by omega)).symm
      | exact (plc_no2 (in_bad (by omega) hi' (by omega))).symm
      | exact (plc_no3 (ris_bad (k := k - 1) (by omega) hr' (by rw [Nat.sub_add_cancel (by omega)]; omega))).symm
      | exact (plc_yes (by omega) (in_end hi' (by omega)) (ris_end hr' (by omega))).symm
    ·refine kM rfl rfl (kG rfl rfl (a_mov rfl (kG rfl rfl (a_mov rfl (kG rfl rfl (a_iaI (j := k) hl rfl rfl (by omega) (by simp) (by omega) (fun _ _ a6 => (kG rfl rfl (a_ldr rfl (hl.at a6 (by omega)) (kG rfl rfl (a_mov rfl (kG rfl rfl (a_gtr rfl rfl (fun h7 => ?_) (fun h7 => ?_))))))))))))))
     ·refine kO rfl (a_pick_f rfl rfl rfl (kM rfl rfl (i_no rfl rfl (i_no rfl rfl (i_no rfl rfl (i_no rfl rfl (i_no rfl rfl (i_no rfl rfl (i_no rfl rfl (i_no rfl rfl (i_no rfl rfl (i_no rfl rfl (i_no rfl rfl (i_no rfl rfl (i_no rfl rfl (i_no rfl rfl (kO rfl (a_pick_t rfl rfl rfl (i_nil (r_cond_t rfl (rS (kM rfl rfl (i_nil (r_ret (block_r ?_)))))))))))))))))))))))))
      refine then_r (then_r (block_r (then_r (end1 rfl ⟨congrArg Value.bool ?_, rfl⟩))))
      first
       | exact (plc_no1 (by omega)).symm
       | exact (plc_no2 (in_bad (by omega) hi' (by omega))).symm
       | exact (plc_no3 (ris_bad (k := k - 1) (by omega) hr' (by rw [Nat.sub_add_cancel (by omega)]; omega))).symm
       | exact (plc_yes (by omega) (in_end hi' (by omega)) (ris_end hr' (by omega))).symm
     ·refine kO rfl (a_pick_f rfl rfl rfl (kM rfl rfl (kG rfl rfl (a_mov rfl (kG rfl rfl (a_gtr rfl rfl (fun h8 => ?_) (fun h8 => ?_)))))))
      ·refine kG rfl rfl (a_mov rfl (kG rfl rfl (a_mov rfl (kG rfl rfl (a_mov rfl (kG rfl rfl (a_sub rfl rfl (by omega) (kG rfl rfl (a_iaI (j := k - 1) hl rfl rfl (by omega) (by simp) (by omega) (fun _ _ a99 => (kG rfl rfl (a_ldr rfl (hl.at a99 (by omega)) (kG rfl rfl (a_mov rfl (kG rfl rfl (a_mov rfl (kG rfl rfl (a_iaI (j := k) hl rfl rfl (by omega) (by simp) (by omega) (fun _ _ a10 => (kG rfl rfl (a_ldr rfl (hl.at a10 (by omega)) (kG rfl rfl (a_geq rfl rfl (fun h11 => ?_) (fun h11 => ?_))))))))))))))))))))))))
       ·refine kG rfl rfl (a_pick_t rfl rfl rfl (kO rfl (a_pick_f rfl rfl rfl (i_nil (r_cond_t rfl (rS (kM rfl rfl (i_nil (r_ret (block_r (then_r (then_r (block_r (then_r (end1 rfl ⟨congrArg Value.bool ?_, rfl⟩)))))))))))))))
        first
         | exact (plc_no1 (by omega)).symm
         | exact (plc_no2 (in_bad (by omega) hi' (by omega))).symm
         | exact (plc_no3 (ris_bad (k := k - 1) (by omega) hr' (by rw [Nat.sub_add_cancel (by omega)]; omega))).symm
         | exact (plc_yes (by omega) (in_end hi' (by omega)) (ris_end hr' (by omega))).symm
       ·refine kG rfl rfl (a_pick_t rfl rfl rfl (kO rfl (a_pick_f rfl rfl rfl (i_nil (r_cond_f rfl (r_skip (block_n (then_n (rI (kM rfl rfl (kO rfl (a_add rfl rfl (by omega) (kM rfl rfl (i_nil (then_n ?_)))))))))))))))
        exact ⟨rfl, _, _, _, (show l.length - (k + 1) < l.length - k by omega), (lc 0 rfl (lc 7 rfl (lc 1 rfl (lc 2 rfl Less.nil)))), .slnil, ⟨k + 1, rfl, rfl, rfl, by omega, in_good (by omega) hi' (by omega), (by rcases Nat.eq_zero_or_pos k with hk0 | hk0; (rw [hk0] at hr'; rw [hk0]; exact hr'); (have q := ris_good (k := k - 1) (by omega) hr' (by rw [Nat.sub_add_cancel (by omega)]; omega); rw [Nat.sub_add_cancel (by omega)] at q; exact q))⟩⟩
      ·refine kG rfl rfl (a_mov rfl (i_no rfl rfl (i_no rfl rfl (i_no rfl rfl (i_no rfl rfl (i_no rfl rfl (i_no rfl rfl (i_no rfl rfl (i_no rfl rfl (i_no rfl rfl (i_no rfl rfl (kG rfl rfl (a_pick_f rfl rfl rfl (kO rfl (a_pick_f rfl rfl rfl (i_nil (r_cond_f rfl (r_skip (block_n (then_n (rI (kM rfl rfl (kO rfl (a_add rfl rfl (by omega) (kM rfl rfl (i_nil (then_n ?_)))))))))))))))))))))))))))
       exact ⟨rfl, _, _, _, (show l.length - (k + 1) < l.length - k by omega), (lc 0 rfl (lc 7 rfl (lc 1 rfl (lc 2 rfl Less.nil)))), .slnil, ⟨k + 1, rfl, rfl, rfl, by omega, in_good (by omega) hi' (by omega), (by rcases Nat.eq_zero_or_pos k with hk0 | hk0; (rw [hk0] at hr'; rw [hk0]; exact hr'); (have q := ris_good (k := k - 1) (by omega) hr' (by rw [Nat.sub_add_cancel (by omega)]; omega); rw [Nat.sub_add_cancel (by omega)] at q; exact q))⟩⟩
   ·refine i_nil (r_cond_f rfl (r_exit (then_e (then_e (block_hit (then_n (rS (kM rfl rfl (i_nil (r_ret (end1 rfl ⟨congrArg Value.bool ?_, rfl⟩)))))))))))
    first
     | exact (plc_no1 (by omega)).symm
     | exact (plc_no2 (in_bad (by omega) hi' (by omega))).symm
     | exact (plc_no3 (ris_bad (k := k - 1) (by omega) hr' (by rw [Nat.sub_add_cancel (by omega)]; omega))).symm
     | exact (plc_yes (by omega) (in_end hi' (by omega)) (ris_end hr' (by omega))).symm

end
end Ev
end Go.Proofs.YtfhfjcfhanmbiaaGreat

/- Contracts: plans, ratios. -/
namespace Go.Proofs.YtfhfjcfhanmbiaaGreat
open Go Go.RowKit
namespace Ev
theorem in_mono {lo hi hi2 : Int} (h : hi ≤ hi2) {l : List Int} (hi' : inB lo hi l = true) : inB lo hi2 l = true := by
  unfold inB at *
  rw [List.all_eq_true] at *
  intro x hx
  have := hi' x hx
  simp at this ⊢
  omega
def planB (l1 l2 : List Int) : Bool := plcB 9 100000 l1 && plcB 7 15000 l2
theorem plan_no1 {l1 l2 : List Int} (h : plcB 9 100000 l1 = false) : planB l1 l2 = false := by unfold planB; rw [h]; rfl
theorem plan_no2 {l1 l2 : List Int} (h : plcB 9 100000 l2 = false) : planB l1 l2 = false := by
  unfold planB
  rw [Bool.and_eq_false_iff]
  refine .inr ?_
  cases hb : plcB 7 15000 l2 with
  | false => rfl
  | true =>
    unfold plcB at h hb
    rw [Bool.and_eq_true, Bool.and_eq_true] at hb
    obtain ⟨⟨h1, h2⟩, h3⟩ := hb
    have h1 := of_decide_eq_true h1
    rw [decide_eq_true (by omega), in_mono (by decide) h2, h3] at h
    exact h
theorem plan_no3 {l1 l2 : List Int} (h : ¬ (l2.length : Int) ≤ 7) : planB l1 l2 = false := by
  unfold planB; rw [plc_no1 (m := 7) (by omega)]; simp
theorem plan_no4 {l1 l2 : List Int} (h : inB 0 15000 l2 = false) : planB l1 l2 = false := by
  unfold planB; rw [plc_no2 (hi := 15000) h]; simp
theorem plan_yes {l1 l2 : List Int} (h : plcB 9 100000 l1 = true) (h2 : plcB 9 100000 l2 = true) (h3 : (l2.length : Int) ≤ 7) (h4 : inB 0 15000 l2 = true) : planB l1 l2 = true := by
  unfold planB
  rw [h]
  unfold plcB at h2 ⊢
  rw [Bool.and_eq_true, Bool.and_eq_true] at h2
  obtain ⟨⟨h1, _⟩, h5⟩ := h2
  have h1 := of_decide_eq_true h1
  rw [decide_eq_true (by omega), h4, h5]; rfl
def rat (a b : Int) : Int := if max a b = 1 * min a b then 1 else if max a b = 2 * min a b then 2 else if max a b = 3 * min a b then 3 else 0
theorem rat_cases (a b : Int) : rat a b = 0 ∨ rat a b = 1 ∨ rat a b = 2 ∨ rat a b = 3 := by
  unfold rat; (repeat' split) <;> decide

section
variable {X : FuncId → List Value → St → (Value → St → Bool) → Bool}
theorem checkPlan_s (n : Nat) (a1 a2 : Option Addr) (c1 c2 : Nat) (l1 l2 : List Int) (s : St) (hs : Wf s) (hn : 844424930131968 ≤ n) (hl1 : IntsE s a1 l1) (hl2 : IntsE s a2 l2) : Spec Tryz.prog (tabK tabw) X (n + 300) 85 [.slice a1 l1.length c1, .slice a2 l2.length c2] s (fun v A => v = .int .i64 (if planB l1 l2 = true then 0 else 12) ∧ A = []) := by
 refine enter bw85_at rfl hs ?_
 unfold bw85
 have hlen1 := hl1.len
 have hlen2 := hl2.len
 refine rS (kM rfl rfl (i_nil (rQ (rS (kM rfl rfl (kO rfl (a_callE rfl rfl (fun s1 h1 => CheckPlaces_s _ _ _ _ s1 h1.wf (by omega) (hl1.ext hs h1.2.1)) (fun h1 => ?_) (fun h1 => ?_))))))))
 ·refine kM rfl rfl (i_nil (rS (kM rfl rfl (kO rfl (a_neq rfl rfl (fun h => absurd h (by decide)) (fun _ => (i_nil (r_cond_f rfl (r_skip (then_n (rQ (rS (kM rfl rfl (kO rfl (a_callE rfl rfl (fun s1 h1 => CheckPlaces_s _ _ _ _ s1 h1.wf (by omega) (hl2.ext hs h1.2.1)) (fun h3 => ?_) (fun h3 => ?_))))))))))))))))
  ·refine kM rfl rfl (i_nil (rS (kM rfl rfl (kO rfl (a_neq rfl rfl (fun h => absurd h (by decide)) (fun _ => (i_nil (r_cond_f rfl (r_skip (then_n (rQ (rS (kM rfl rfl (kO rfl (a_lenx rfl hl2.spot (kO rfl (a_gtr rfl rfl (fun h5 => ?_) (fun h5 => ?_))))))))))))))))))
   ·refine kM rfl rfl (i_no rfl rfl (i_no rfl rfl (i_no rfl rfl (kO rfl (a_pick_t rfl rfl rfl (i_nil (r_cond_t rfl (rS (kM rfl rfl (i_nil (r_ret (then_r (end1 rfl ⟨congrArg (Value.int .i64) ?_, rfl⟩)))))))))))))
    first
     | (rw [plan_no1 (by simpa using (by assumption : ¬ plcB 9 100000 l1 = true))]; rfl)
     | (rw [plan_no2 (by simpa using (by assumption : ¬ plcB 9 100000 l2 = true))]; rfl)
     | (rw [plan_no3 (by omega)]; rfl)
     | (rw [plan_no4 (by assumption)]; rfl)
     | (rw [plan_yes (by assumption) (by assumption) (by omega) (by assumption)]; rfl)
   ·refine kM rfl rfl (kG rfl rfl (a_mov rfl (kG rfl rfl (a_callb rfl rfl (fun s1 h1 => within_s _ _ _ _ _ _ s1 h1.wf (by omega) (hl2.ext hs h1.2.1)) (fun h6 => ?_) (fun h6 => ?_)))))
    ·refine kG rfl rfl (a_not rfl (kO rfl (a_pick_f rfl rfl rfl (i_nil (r_cond_f rfl (r_skip (then_n (rS (kM rfl rfl (i_nil (r_ret (end1 rfl ⟨congrArg (Value.int .i64) ?_, rfl⟩))))))))))))
     first
      | (rw [plan_no1 (by simpa using (by assumption : ¬ plcB 9 100000 l1 = true))]; rfl)
      | (rw [plan_no2 (by simpa using (by assumption : ¬ plcB 9 100000 l2 = true))]; rfl)
      | (rw [plan_no3 (by omega)]; rfl)
      | (rw [plan_no4 (by assumption)]; rfl)
      | (rw [plan_yes (by assumption) (by assumption) (by omega) (by assumption)]; rfl)
    ·refine kG rfl rfl (a_not rfl (kO rfl (a_pick_f rfl rfl rfl (i_nil (r_cond_t rfl (rS (kM rfl rfl (i_nil (r_ret (then_r (end1 rfl ⟨congrArg (Value.int .i64) ?_, rfl⟩)))))))))))
     first
      | (rw [plan_no1 (by simpa using (by assumption : ¬ plcB 9 100000 l1 = true))]; rfl)
      | (rw [plan_no2 (by simpa using (by assumption : ¬ plcB 9 100000 l2 = true))]; rfl)
      | (rw [plan_no3 (by omega)]; rfl)
      | (rw [plan_no4 (by assumption)]; rfl)
      | (rw [plan_yes (by assumption) (by assumption) (by omega) (by assumption)]; rfl)
  ·refine kM rfl rfl (i_nil (rS (kM rfl rfl (kO rfl (a_neq rfl rfl (fun _ => (i_nil (r_cond_t rfl (rS (kM rfl rfl (kM rfl rfl (i_nil (r_ret (then_r (end1 rfl ⟨congrArg (Value.int .i64) ?_, rfl⟩)))))))))) (fun h => absurd h (by decide)))))))
   first
    | (rw [plan_no1 (by simpa using (by assumption : ¬ plcB 9 100000 l1 = true))]; rfl)
    | (rw [plan_no2 (by simpa using (by assumption : ¬ plcB 9 100000 l2 = true))]; rfl)
    | (rw [plan_no3 (by omega)]; rfl)
    | (rw [plan_no4 (by assumption)]; rfl)
    | (rw [plan_yes (by assumption) (by assumption) (by omega) (by assumption)]; rfl)
 ·refine kM rfl rfl (i_nil (rS (kM rfl rfl (kO rfl (a_neq rfl rfl (fun _ => (i_nil (r_cond_t rfl (rS (kM rfl rfl (kM rfl rfl (i_nil (r_ret (then_r (end1 rfl ⟨congrArg (Value.int .i64) ?_, rfl⟩)))))))))) (fun h => absurd h (by decide)))))))
  first
   | (rw [plan_no1 (by simpa using (by assumption : ¬ plcB 9 100000 l1 = true))]; rfl)
   | (rw [plan_no2 (by simpa using (by assumption : ¬ plcB 9 100000 l2 = true))]; rfl)
   | (rw [plan_no3 (by omega)]; rfl)
   | (rw [plan_no4 (by assumption)]; rfl)
   | (rw [plan_yes (by assumption) (by assumption) (by omega) (by assumption)]; rfl)

theorem rCheckPlaces_s (n : Nat) (a : Option Addr) (cap : Nat) (l : List Int) (s : St) (hs : Wf s) (hn : 562949953421312 ≤ n) (hl : IntsE s a l) : Spec Tryz.prog (tabK tabw) X (n + 300) 48 [.slice a l.length cap] s (fun v A => v = .int .i64 (if plcB 9 100000 l = true then 0 else 12) ∧ A = []) := by
 refine enter bw48_at rfl hs ?_
 unfold bw48
 have hlen := hl.len
 refine rS (kM rfl rfl (i_nil (rQ (rS (kM rfl rfl (kO rfl (a_callb rfl rfl (fun s1 h1 => rising_s _ _ _ _ _ _ s1 h1.wf (by omega) (by decide) (hl.ext hs h1.2.1)) (fun h1 => ?_) (fun h1 => ?_))))))))
 ·refine kO rfl (a_not rfl (i_nil (r_cond_f rfl (r_skip (then_n (rS (kM rfl rfl (i_nil (r_ret (end1 rfl ⟨congrArg (Value.int .i64) ?_, rfl⟩))))))))))
  first
   | exact (if_pos (by assumption)).symm
   | exact (if_neg (by simp [*])).symm
 ·refine kO rfl (a_not rfl (i_nil (r_cond_t rfl (rS (kM rfl rfl (i_nil (r_ret (then_r (end1 rfl ⟨congrArg (Value.int .i64) ?_, rfl⟩)))))))))
  first
   | exact (if_pos (by assumption)).symm
   | exact (if_neg (by simp [*])).symm

theorem ratio_s (n : Nat) (a b : Int) (s : St) (hs : Wf s) (ha : 0 < a ∧ a ≤ 100000) (hb : 0 < b ∧ b ≤ 100000) : Spec Tryz.prog (tabK tabw) X (n + 100) 189 [.int .i64 a, .int .i64 b] s (fun v A => v = .int .i64 (rat a b) ∧ A = []) := by
 refine enter bw189_at rfl hs ?_
 unfold bw189
 refine rS (kM rfl rfl (i_nil (rS (kM rfl rfl (kM rfl rfl (kO rfl (a_min rfl (kM rfl rfl (kM rfl rfl (kO rfl (a_max rfl (kM rfl rfl (kM rfl rfl (i_nil (rQ (rS (kM rfl rfl (i_nil (r_block (r_unroll (rQ (rS (kM rfl rfl (kO rfl (a_leq rfl rfl (fun _ => (i_nil ?_)) (fun h => absurd h (by decide)))))))))))))))))))))))))))
 refine r_cond_t rfl (r_skip (then_n (rQ (r_block (rS (kM rfl rfl (kM rfl rfl (kM rfl rfl (kO rfl (a_mul rfl rfl (by omega) (kO rfl (a_eql rfl rfl (fun h2 => ?_) (fun h2 => ?_)))))))))))))
 ·refine i_nil (r_cond_t rfl (rS (kM rfl rfl (kM rfl rfl (i_nil (r_ret (block_r (then_r (then_r (block_r (then_r (end1 rfl ⟨congrArg (Value.int .i64) ?_, rfl⟩))))))))))))
  unfold rat
  first
   | exact (if_pos (by omega)).symm
   | (rw [if_neg (by omega)]; exact (if_pos (by omega)).symm)
   | (rw [if_neg (by omega), if_neg (by omega)]; exact (if_pos (by omega)).symm)
   | (rw [if_neg (by omega), if_neg (by omega)]; exact (if_neg (by omega)).symm)
 ·refine i_nil (r_cond_f rfl (r_skip (block_n (then_n (rI (kM rfl rfl (kO rfl (a_add rfl rfl (by decide) (kM rfl rfl (i_nil (then_n (r_unroll (rQ (rS (kM rfl rfl (kO rfl (a_leq rfl rfl (fun _ => (i_nil (r_cond_t rfl (r_skip (then_n (rQ (r_block (rS (kM rfl rfl ?_))))))))) (fun h => absurd h (by decide)))))))))))))))))))
  refine kM rfl rfl (kM rfl rfl (kO rfl (a_mul rfl rfl (by omega) (kO rfl (a_eql rfl rfl (fun h4 => ?_) (fun h4 => ?_))))))
  ·refine i_nil (r_cond_t rfl (rS (kM rfl rfl (kM rfl rfl (i_nil (r_ret (block_r (then_r (then_r (block_r (then_r (end1 rfl ⟨congrArg (Value.int .i64) ?_, rfl⟩))))))))))))
   unfold rat
   first
    | exact (if_pos (by omega)).symm
    | (rw [if_neg (by omega)]; exact (if_pos (by omega)).symm)
    | (rw [if_neg (by omega), if_neg (by omega)]; exact (if_pos (by omega)).symm)
    | (rw [if_neg (by omega), if_neg (by omega)]; exact (if_neg (by omega)).symm)
  ·refine i_nil (r_cond_f rfl (r_skip (block_n (then_n (rI (kM rfl rfl (kO rfl (a_add rfl rfl (by decide) (kM rfl rfl (i_nil (then_n (r_unroll (rQ (rS (kM rfl rfl (kO rfl (a_leq rfl rfl (fun _ => (i_nil (r_cond_t rfl (r_skip (then_n (rQ (r_block (rS (kM rfl rfl ?_))))))))) (fun h => absurd h (by decide)))))))))))))))))))
   refine kM rfl rfl (kM rfl rfl (kO rfl (a_mul rfl rfl (by omega) (kO rfl (a_eql rfl rfl (fun h6 => ?_) (fun h6 => ?_))))))
   ·refine i_nil (r_cond_t rfl (rS (kM rfl rfl (kM rfl rfl (i_nil (r_ret (block_r (then_r (then_r (block_r (then_r (end1 rfl ⟨congrArg (Value.int .i64) ?_, rfl⟩))))))))))))
    unfold rat
    first
     | exact (if_pos (by omega)).symm
     | (rw [if_neg (by omega)]; exact (if_pos (by omega)).symm)
     | (rw [if_neg (by omega), if_neg (by omega)]; exact (if_pos (by omega)).symm)
     | (rw [if_neg (by omega), if_neg (by omega)]; exact (if_neg (by omega)).symm)
   ·refine i_nil (r_cond_f rfl (r_skip (block_n (then_n (rI (kM rfl rfl (kO rfl (a_add rfl rfl (by decide) (kM rfl rfl (i_nil (then_n (r_unroll (rQ (rS (kM rfl rfl (kO rfl (a_leq rfl rfl (fun h => absurd h (by decide)) (fun _ => (i_nil (r_cond_f rfl (r_exit (then_e (then_e (block_hit (then_n (rS ?_))))))))))))))))))))))))))
    refine kM rfl rfl (i_nil (r_ret (end1 rfl ⟨congrArg (Value.int .i64) ?_, rfl⟩)))
    unfold rat
    first
     | exact (if_pos (by omega)).symm
     | (rw [if_neg (by omega)]; exact (if_pos (by omega)).symm)
     | (rw [if_neg (by omega), if_neg (by omega)]; exact (if_pos (by omega)).symm)
     | (rw [if_neg (by omega), if_neg (by omega)]; exact (if_neg (by omega)).symm)

end
end Ev
end Go.Proofs.YtfhfjcfhanmbiaaGreat

/- Contracts: groups. -/
namespace Go.Proofs.YtfhfjcfhanmbiaaGreat
open Go Go.RowKit
namespace Ev
def many (l : List Int) (i : Nat) : Nat := if i + 2 < l.length ∧ rat (l.getD (i + 1) 0 - l.getD i 0) (l.getD (i + 2) 0 - l.getD (i + 1) 0) ≠ 0 then 2 else 1
theorem many_two {l : List Int} {i : Nat} (h : i + 2 < l.length) (h2 : ¬ rat (l.getD (i + 1) 0 - l.getD i 0) (l.getD (i + 2) 0 - l.getD (i + 1) 0) = 0) : many l i = 2 := if_pos ⟨h, h2⟩
theorem many_one {l : List Int} {i : Nat} (h : ¬ i + 2 < l.length) : many l i = 1 := if_neg (fun q => h q.1)
theorem many_one2 {l : List Int} {i : Nat} (h : rat (l.getD (i + 1) 0 - l.getD i 0) (l.getD (i + 2) 0 - l.getD (i + 1) 0) = 0) : many l i = 1 := if_neg (fun q => q.2 h)
theorem many_three {l : List Int} {i : Nat} (h : i + 2 < l.length) (h2 : 0 < rat (l.getD (i + 1) 0 - l.getD i 0) (l.getD (i + 2) 0 - l.getD (i + 1) 0)) : many l i = 2 := many_two h (by omega)
theorem many_one3 {l : List Int} {i : Nat} (h : ¬ 0 < rat (l.getD (i + 1) 0 - l.getD i 0) (l.getD (i + 2) 0 - l.getD (i + 1) 0)) : many l i = 1 := many_one2 (by have := rat_cases (l.getD (i + 1) 0 - l.getD i 0) (l.getD (i + 2) 0 - l.getD (i + 1) 0); omega)
theorem many_cases (l : List Int) (i : Nat) : many l i = 1 ∨ many l i = 2 := by unfold many; split <;> simp
def grs (l : List Int) (i : Nat) : List (Nat × Nat) := if h : i + 1 < l.length then (i, many l i) :: grs l (i + many l i) else []
termination_by l.length - i
decreasing_by have := many_cases l i; omega
theorem gr_eq {l : List Int} {i : Nat} (hi : i + 1 < l.length) : grs l i = (i, many l i) :: grs l (i + many l i) := by rw [grs, dif_pos hi]
theorem gr_nil {l : List Int} {i : Nat} (hi : l.length ≤ i + 1) : grs l i = [] := by rw [grs, dif_neg (by omega)]
theorem gr_step {l : List Int} {G : List (Nat × Nat)} {i m : Nat} (h : grs l 0 = G ++ grs l i) (hi : i + 1 < l.length) (hm : many l i = m) : grs l 0 = (G ++ [(i, m)]) ++ grs l (i + m) := by
  rw [h, gr_eq hi, hm]; simp
theorem gr_end {l : List Int} {G : List (Nat × Nat)} {i : Nat} (h : grs l 0 = G ++ grs l i) (hi : l.length ≤ i + 1) : grs l 0 = G := by
  rw [h, gr_nil hi]; simp
def flat2 (G : List (Nat × Nat)) : List Value := G.flatMap fun p => [.int .i64 (p.1 : Int), .int .i64 (p.2 : Int)]
theorem flat2_len {G : List (Nat × Nat)} : (flat2 G).length = G.length * 2 := by
  induction G with
  | nil => rfl
  | cons p G ih => simp [flat2] at ih ⊢; omega
theorem flat2_app {G H : List (Nat × Nat)} : flat2 (G ++ H) = flat2 G ++ flat2 H := by simp [flat2]
theorem flat2_get {G : List (Nat × Nat)} : ∀ {k : Nat} {p : Nat × Nat}, G[k]? = some p → (flat2 G)[k * 2]? = some (.int .i64 (p.1 : Int)) ∧ (flat2 G)[k * 2 + 1]? = some (.int .i64 (p.2 : Int)) := by
  induction G with
  | nil => intro k p h; simp at h
  | cons q G ih =>
    intro k p h
    cases k with
    | zero => simp at h; subst h; exact ⟨rfl, rfl⟩
    | succ k =>
      have := ih (k := k) (p := p) (by simpa using h)
      rw [show (k + 1) * 2 = k * 2 + 2 by omega]
      exact this
/-- Groups lie within the positions. -/
theorem gr_in {l : List Int} : ∀ (f i : Nat), l.length ≤ i + f → ∀ p ∈ grs l i, p.1 + p.2 < l.length ∧ many l p.1 = p.2
  | 0, i, hf, p, hp => by rw [grs, dif_neg (by omega)] at hp; cases hp
  | f + 1, i, hf, p, hp => by
    rw [grs] at hp
    by_cases hi : i + 1 < l.length
    · rw [dif_pos hi] at hp
      have hm := many_cases l i
      rcases List.mem_cons.1 hp with rfl | hp
      · refine ⟨?_, rfl⟩
        show i + many l i < l.length
        unfold many
        split <;> omega
      · exact gr_in f (i + many l i) (by omega) p hp
    · rw [dif_neg hi] at hp; cases hp
theorem gr_len {l : List Int} : ∀ (f i : Nat), l.length ≤ i + f → (grs l i).length ≤ f
  | 0, i, hf => by rw [grs, dif_neg (by omega)]; simp
  | f + 1, i, hf => by
    rw [grs]
    by_cases hi : i + 1 < l.length
    · rw [dif_pos hi]
      have hm := many_cases l i
      have := gr_len (l := l) f (i + many l i) (by omega)
      simp; omega
    · rw [dif_neg hi]; simp

section
variable {X : FuncId → List Value → St → (Value → St → Bool) → Bool}
theorem groupsOf_s (n : Nat) (a : Option Addr) (cap : Nat) (l : List Int) (s : St) (hs : Wf s) (hn : 281474976710656 ≤ n) (hl : IntsE s a l) (hp : Plc 9 100000 l) : Spec Tryz.prog (tabK tabw) X (n + 300) 179 [.slice a l.length cap] s (fun v A => ∃ b, v = .slice (some ⟨b, 0, none⟩) (grs l 0).length OPEN ∧ A = [.row b 215 true (flat2 (grs l 0))]) := by
 refine enter bw179_at rfl hs ?_
 unfold bw179
 have hlen := hl.len
 have z0 := hp.lo (0)
 have z1 := hp.lo (1)
 have z2 := hp.lo (2)
 have r0 : 1 < l.length → l.getD (0) 0 < l.getD (1) 0 := fun h => hp.rise _ h
 have r1 : 2 < l.length → l.getD (1) 0 < l.getD (2) 0 := fun h => hp.rise _ h
 have hm9 := hp.hm
 have h29 := hp.h2
 refine rS (kM rfl rfl (i_nil (rS (kM rfl rfl (i_nil (rQ (rS (kM rfl rfl (i_nil (r_block (r_unroll (rQ (rS (kM rfl rfl (kO rfl (a_add rfl rfl (by decide) (kM rfl rfl (kO rfl (a_lenx rfl hl.spot (kO rfl (a_lss rfl rfl (fun h1 => ?_) (fun h1 => ?_))))))))))))))))))))))
 ·refine i_nil (r_cond_t rfl (r_skip (then_n (r_block (rS (kM rfl rfl (i_nil (rQ (rS (kM rfl rfl (kO rfl (a_add rfl rfl (by decide) (kM rfl rfl (kO rfl (a_lenx rfl hl.spot (kO rfl (a_lss rfl rfl (fun h2 => ?_) (fun h2 => ?_))))))))))))))))))
  ·refine kM rfl rfl (kG rfl rfl (a_mov rfl (kG rfl rfl (a_mov rfl (kG rfl rfl (a_add rfl rfl (by decide) (kG rfl rfl (a_iaI (j := 1) hl rfl rfl (by omega) (by simp) (by omega) (fun _ _ a3 => (kG rfl rfl (a_ldr rfl (hl.at a3 (by omega)) (kG rfl rfl (a_mov rfl (kG rfl rfl (a_mov rfl (kG rfl rfl (a_iaI (j := 0) hl rfl rfl (by omega) (by simp) (by omega) (fun _ _ a4 => (kG rfl rfl (a_ldr rfl (hl.at a4 (by omega)) (kG rfl rfl (a_sub rfl rfl (by omega) (kG rfl rfl (a_mov rfl (kG rfl rfl (a_mov rfl (kG rfl rfl (a_add rfl rfl (by decide) (kG rfl rfl (a_iaI (j := 2) hl rfl rfl (by omega) (by simp) (by omega) (fun _ _ a5 => (kG rfl rfl (a_ldr rfl (hl.at a5 (by omega)) (kG rfl rfl (a_mov rfl (kG rfl rfl (a_mov rfl (kG rfl rfl (a_add rfl rfl (by decide) (kG rfl rfl (a_iaI (j := 1) hl rfl rfl (by omega) (by simp) (by omega) (fun _ _ a6 => (kG rfl rfl (a_ldr rfl (hl.at a6 (by omega)) (kG rfl rfl (a_sub rfl rfl (by omega) (kG rfl rfl (a_callV rfl rfl (fun s1 h1 => ratio_s _ _ _ s1 h1.wf (by omega) (by omega)) (kG rfl rfl (a_neq rfl rfl (fun h7 => ?_) (fun h7 => ?_)))))))))))))))))))))))))))))))))))))))))))))))))))
   ·refine kO rfl (a_pick_t rfl rfl rfl (i_nil (r_cond_t rfl (rI (kM rfl rfl (i_nil (then_n (rS (kM rfl rfl (kM rfl rfl (kM rfl rfl (kO rfl (a_build rfl rfl (kO rfl (a_lit rfl rfl rfl (fun b8 => (kO rfl (a_appn rfl rfl (Src.own .here rfl (by simp)) (by decide) (by omega) (by omega) (fun b9 => (kM rfl rfl (i_nil (rI (kM rfl rfl (kM rfl rfl (kO rfl (a_add rfl rfl (by decide) (kM rfl rfl (i_nil (block_n (then_n ?_))))))))))))))))))))))))))))))
    refine r_loop (fun j e A => ∃ (i b : Nat) (G : List (Nat × Nat)), e = [(0, .slice a l.length cap), (4, .int .i64 (i : Int)), (3, .slice (some ⟨b, 0, none⟩) G.length OPEN)] ∧ A = (.row b 215 true (flat2 G) :: []) ∧ j = l.length - i ∧ i ≤ l.length ∧ grs l 0 = G ++ grs l i ∧ G.length ≤ i) 160 0 281474976710656 ?_ (j := _) (env2 := _) (A2 := _) ?_ ?_ ?_ ?_ ⟨2, b9, [(0, 2)], rfl, rfl, rfl, by omega, (gr_step (G := []) (i := 0) rfl (by omega) (by first | exact many_two (by omega) (by assumption) | exact many_one (by omega) | exact many_one2 (by assumption) | exact many_three (by omega) (by assumption) | exact many_one3 (by assumption))), (by simp)⟩
    rotate_left
    ·omega
    ·omega
    ·exact (lc 0 rfl (lc 4 rfl (lc 3 rfl Less.nil)))
    ·exact (.cons_cons _ (.cons _ .slnil))
    rintro n hn j _ _ ⟨i, b, G, rfl, rfl, rfl, hi, hG, hGl⟩
    have z0 := hp.lo (i)
    have z1 := hp.lo (i + 1)
    have z2 := hp.lo (i + 2)
    have r0 : i + 1 < l.length → l.getD (i) 0 < l.getD (i + 1) 0 := fun h => hp.rise _ h
    have r1 : i + 2 < l.length → l.getD (i + 1) 0 < l.getD (i + 2) 0 := fun h => hp.rise _ h
    have hm9 := hp.hm
    have h29 := hp.h2
    refine rQ (rS (kM rfl rfl (kO rfl (a_add rfl rfl (by omega) (kM rfl rfl (kO rfl (a_lenx rfl hl.spot (kO rfl (a_lss rfl rfl (fun h10 => ?_) (fun h10 => ?_))))))))))
    ·refine i_nil (r_cond_t rfl (r_skip (then_n (r_block (rS (kM rfl rfl (i_nil (rQ (rS (kM rfl rfl (kO rfl (a_add rfl rfl (by omega) (kM rfl rfl (kO rfl (a_lenx rfl hl.spot (kO rfl (a_lss rfl rfl (fun h11 => ?_) (fun h11 => ?_))))))))))))))))))
     ·refine kM rfl rfl (kG rfl rfl (a_mov rfl (kG rfl rfl (a_mov rfl (kG rfl rfl (a_add rfl rfl (by omega) (kG rfl rfl (a_iaI (j := i + 1) hl rfl rfl (by omega) (by simp) (by omega) (fun _ _ a12 => (kG rfl rfl (a_ldr rfl (hl.at a12 (by omega)) (kG rfl rfl (a_mov rfl (kG rfl rfl (a_mov rfl (kG rfl rfl (a_iaI (j := i) hl rfl rfl (by omega) (by simp) (by omega) (fun _ _ a13 => (kG rfl rfl (a_ldr rfl (hl.at a13 (by omega)) (kG rfl rfl (a_sub rfl rfl (by omega) (kG rfl rfl (a_mov rfl (kG rfl rfl (a_mov rfl (kG rfl rfl (a_add rfl rfl (by omega) (kG rfl rfl (a_iaI (j := i + 2) hl rfl rfl (by omega) (by simp) (by omega) (fun _ _ a14 => (kG rfl rfl (a_ldr rfl (hl.at a14 (by omega)) (kG rfl rfl (a_mov rfl (kG rfl rfl (a_mov rfl (kG rfl rfl (a_add rfl rfl (by omega) (kG rfl rfl (a_iaI (j := i + 1) hl rfl rfl (by omega) (by simp) (by omega) (fun _ _ a15 => (kG rfl rfl (a_ldr rfl (hl.at a15 (by omega)) (kG rfl rfl (a_sub rfl rfl (by omega) (kG rfl rfl (a_callV rfl rfl (fun s1 h1 => ratio_s _ _ _ s1 h1.wf (by omega) (by omega)) (kG rfl rfl (a_neq rfl rfl (fun h16 => ?_) (fun h16 => ?_)))))))))))))))))))))))))))))))))))))))))))))))))))
      ·refine kO rfl (a_pick_t rfl rfl rfl (i_nil (r_cond_t rfl (rI (kM rfl rfl (i_nil (then_n (rS (kM rfl rfl (kM rfl rfl (kM rfl rfl (kO rfl (a_build rfl rfl (kO rfl (a_lit rfl rfl rfl (fun b17 => (kO rfl (a_app rfl rfl (Src.own .here rfl (by simp)) (.next .here) (by rw [flat2_len]) (.inl ⟨rfl, rfl⟩) (by decide) (by omega) (by omega) (fun b18 => (kM rfl rfl (i_nil (rI (kM rfl rfl (kM rfl rfl (kO rfl (a_add rfl rfl (by omega) (kM rfl rfl (i_nil (block_n (then_n ?_))))))))))))))))))))))))))))))
       exact ⟨rfl, _, _, _, (show l.length - (i + 2) < l.length - i by omega), (lc 0 rfl (lc 4 rfl (lc 3 rfl Less.nil))), (.cons_cons _ (.cons _ .slnil)), ⟨i + 2, b18, G ++ [(i, 2)], (by simp), (by rw [flat2_app]; rfl), rfl, by omega, (gr_step hG (by omega) (by first | exact many_two (by omega) (by assumption) | exact many_one (by omega) | exact many_one2 (by assumption) | exact many_three (by omega) (by assumption) | exact many_one3 (by assumption))), (by simp; omega)⟩⟩
      ·refine kO rfl (a_pick_t rfl rfl rfl (i_nil (r_cond_f rfl (r_skip (then_n (rS (kM rfl rfl (kM rfl rfl (kM rfl rfl (kO rfl (a_build rfl rfl (kO rfl (a_lit rfl rfl rfl (fun b19 => (kO rfl (a_app rfl rfl (Src.own .here rfl (by simp)) (.next .here) (by rw [flat2_len]) (.inl ⟨rfl, rfl⟩) (by decide) (by omega) (by omega) (fun b20 => (kM rfl rfl (i_nil (rI (kM rfl rfl (kM rfl rfl (kO rfl (a_add rfl rfl (by omega) (kM rfl rfl (i_nil (block_n (then_n ?_))))))))))))))))))))))))))))
       exact ⟨rfl, _, _, _, (show l.length - (i + 1) < l.length - i by omega), (lc 0 rfl (lc 4 rfl (lc 3 rfl Less.nil))), (.cons_cons _ (.cons _ .slnil)), ⟨i + 1, b20, G ++ [(i, 1)], (by simp), (by rw [flat2_app]; rfl), rfl, by omega, (gr_step hG (by omega) (by first | exact many_two (by omega) (by assumption) | exact many_one (by omega) | exact many_one2 (by assumption) | exact many_three (by omega) (by assumption) | exact many_one3 (by assumption))), (by simp; omega)⟩⟩
     ·refine kM rfl rfl (i_no rfl rfl (i_no rfl rfl (i_no rfl rfl (i_no rfl rfl (i_no rfl rfl (i_no rfl rfl (i_no rfl rfl (i_no rfl rfl (i_no rfl rfl (i_no rfl rfl (i_no rfl rfl (i_no rfl rfl (i_no rfl rfl (i_no rfl rfl (i_no rfl rfl (i_no rfl rfl (i_no rfl rfl (i_no rfl rfl (i_no rfl rfl (i_no rfl rfl (i_no rfl rfl (i_no rfl rfl (i_no rfl rfl ?_)))))))))))))))))))))))
      refine kO rfl (a_pick_f rfl rfl rfl (i_nil (r_cond_f rfl (r_skip (then_n (rS (kM rfl rfl (kM rfl rfl (kM rfl rfl (kO rfl (a_build rfl rfl (kO rfl (a_lit rfl rfl rfl (fun b21 => (kO rfl (a_app rfl rfl (Src.own .here rfl (by simp)) (.next .here) (by rw [flat2_len]) (.inl ⟨rfl, rfl⟩) (by decide) (by omega) (by omega) (fun b22 => (kM rfl rfl (i_nil (rI (kM rfl rfl (kM rfl rfl (kO rfl (a_add rfl rfl (by omega) (kM rfl rfl (i_nil (block_n (then_n ?_))))))))))))))))))))))))))))
      exact ⟨rfl, _, _, _, (show l.length - (i + 1) < l.length - i by omega), (lc 0 rfl (lc 4 rfl (lc 3 rfl Less.nil))), (.cons_cons _ (.cons _ .slnil)), ⟨i + 1, b22, G ++ [(i, 1)], (by simp), (by rw [flat2_app]; rfl), rfl, by omega, (gr_step hG (by omega) (by first | exact many_two (by omega) (by assumption) | exact many_one (by omega) | exact many_one2 (by assumption) | exact many_three (by omega) (by assumption) | exact many_one3 (by assumption))), (by simp; omega)⟩⟩
    ·refine i_nil (r_cond_f rfl (r_exit (then_e (then_e (block_hit (then_n (rS (kM rfl rfl (kM rfl rfl (i_nil (r_ret ?_)))))))))))
     first
      | exact end1A rfl (List.Sublist.refl _) ⟨b, by rw [gr_end hG (by omega)], by rw [gr_end hG (by omega)]⟩
      | (exfalso; omega)
   ·refine kO rfl (a_pick_t rfl rfl rfl (i_nil (r_cond_f rfl (r_skip (then_n (rS (kM rfl rfl (kM rfl rfl (kM rfl rfl (kO rfl (a_build rfl rfl (kO rfl (a_lit rfl rfl rfl (fun b23 => (kO rfl (a_appn rfl rfl (Src.own .here rfl (by simp)) (by decide) (by omega) (by omega) (fun b24 => (kM rfl rfl (i_nil (rI (kM rfl rfl (kM rfl rfl (kO rfl (a_add rfl rfl (by decide) (kM rfl rfl (i_nil (block_n (then_n (r_loop (fun j e A => ∃ (i b : Nat) (G : List (Nat × Nat)), e = [(0, .slice a l.length cap), (4, .int .i64 (i : Int)), (3, .slice (some ⟨b, 0, none⟩) G.length OPEN)] ∧ A = (.row b 215 true (flat2 G) :: []) ∧ j = l.length - i ∧ i ≤ l.length ∧ grs l 0 = G ++ grs l i ∧ G.length ≤ i) 160 0 281474976710656 ?_ (j := _) (env2 := _) (A2 := _) ?_ ?_ ?_ ?_ ⟨1, b24, [(0, 1)], rfl, rfl, rfl, by omega, (gr_step (G := []) (i := 0) rfl (by omega) (by first | exact many_two (by omega) (by assumption) | exact many_one (by omega) | exact many_one2 (by assumption) | exact many_three (by omega) (by assumption) | exact many_one3 (by assumption))), (by simp)⟩)))))))))))))))))))))))))))))
    rotate_left
    ·omega
    ·omega
    ·exact (lc 0 rfl (lc 4 rfl (lc 3 rfl Less.nil)))
    ·exact (.cons_cons _ (.cons _ .slnil))
    rintro n hn j _ _ ⟨i, b, G, rfl, rfl, rfl, hi, hG, hGl⟩
    have z0 := hp.lo (i)
    have z1 := hp.lo (i + 1)
    have z2 := hp.lo (i + 2)
    have r0 : i + 1 < l.length → l.getD (i) 0 < l.getD (i + 1) 0 := fun h => hp.rise _ h
    have r1 : i + 2 < l.length → l.getD (i + 1) 0 < l.getD (i + 2) 0 := fun h => hp.rise _ h
    have hm9 := hp.hm
    have h29 := hp.h2
    refine rQ (rS (kM rfl rfl (kO rfl (a_add rfl rfl (by omega) (kM rfl rfl (kO rfl (a_lenx rfl hl.spot (kO rfl (a_lss rfl rfl (fun h25 => ?_) (fun h25 => ?_))))))))))
    ·refine i_nil (r_cond_t rfl (r_skip (then_n (r_block (rS (kM rfl rfl (i_nil (rQ (rS (kM rfl rfl (kO rfl (a_add rfl rfl (by omega) (kM rfl rfl (kO rfl (a_lenx rfl hl.spot (kO rfl (a_lss rfl rfl (fun h26 => ?_) (fun h26 => ?_))))))))))))))))))
     ·refine kM rfl rfl (kG rfl rfl (a_mov rfl (kG rfl rfl (a_mov rfl (kG rfl rfl (a_add rfl rfl (by omega) (kG rfl rfl (a_iaI (j := i + 1) hl rfl rfl (by omega) (by simp) (by omega) (fun _ _ a27 => (kG rfl rfl (a_ldr rfl (hl.at a27 (by omega)) (kG rfl rfl (a_mov rfl (kG rfl rfl (a_mov rfl (kG rfl rfl (a_iaI (j := i) hl rfl rfl (by omega) (by simp) (by omega) (fun _ _ a28 => (kG rfl rfl (a_ldr rfl (hl.at a28 (by omega)) (kG rfl rfl (a_sub rfl rfl (by omega) (kG rfl rfl (a_mov rfl (kG rfl rfl (a_mov rfl (kG rfl rfl (a_add rfl rfl (by omega) (kG rfl rfl (a_iaI (j := i + 2) hl rfl rfl (by omega) (by simp) (by omega) (fun _ _ a29 => (kG rfl rfl (a_ldr rfl (hl.at a29 (by omega)) (kG rfl rfl (a_mov rfl (kG rfl rfl (a_mov rfl (kG rfl rfl (a_add rfl rfl (by omega) (kG rfl rfl (a_iaI (j := i + 1) hl rfl rfl (by omega) (by simp) (by omega) (fun _ _ a30 => (kG rfl rfl (a_ldr rfl (hl.at a30 (by omega)) (kG rfl rfl (a_sub rfl rfl (by omega) (kG rfl rfl (a_callV rfl rfl (fun s1 h1 => ratio_s _ _ _ s1 h1.wf (by omega) (by omega)) (kG rfl rfl (a_neq rfl rfl (fun h31 => ?_) (fun h31 => ?_)))))))))))))))))))))))))))))))))))))))))))))))))))
      ·refine kO rfl (a_pick_t rfl rfl rfl (i_nil (r_cond_t rfl (rI (kM rfl rfl (i_nil (then_n (rS (kM rfl rfl (kM rfl rfl (kM rfl rfl (kO rfl (a_build rfl rfl (kO rfl (a_lit rfl rfl rfl (fun b32 => (kO rfl (a_app rfl rfl (Src.own .here rfl (by simp)) (.next .here) (by rw [flat2_len]) (.inl ⟨rfl, rfl⟩) (by decide) (by omega) (by omega) (fun b33 => (kM rfl rfl (i_nil (rI (kM rfl rfl (kM rfl rfl (kO rfl (a_add rfl rfl (by omega) (kM rfl rfl (i_nil (block_n (then_n ?_))))))))))))))))))))))))))))))
       exact ⟨rfl, _, _, _, (show l.length - (i + 2) < l.length - i by omega), (lc 0 rfl (lc 4 rfl (lc 3 rfl Less.nil))), (.cons_cons _ (.cons _ .slnil)), ⟨i + 2, b33, G ++ [(i, 2)], (by simp), (by rw [flat2_app]; rfl), rfl, by omega, (gr_step hG (by omega) (by first | exact many_two (by omega) (by assumption) | exact many_one (by omega) | exact many_one2 (by assumption) | exact many_three (by omega) (by assumption) | exact many_one3 (by assumption))), (by simp; omega)⟩⟩
      ·refine kO rfl (a_pick_t rfl rfl rfl (i_nil (r_cond_f rfl (r_skip (then_n (rS (kM rfl rfl (kM rfl rfl (kM rfl rfl (kO rfl (a_build rfl rfl (kO rfl (a_lit rfl rfl rfl (fun b34 => (kO rfl (a_app rfl rfl (Src.own .here rfl (by simp)) (.next .here) (by rw [flat2_len]) (.inl ⟨rfl, rfl⟩) (by decide) (by omega) (by omega) (fun b35 => (kM rfl rfl (i_nil (rI (kM rfl rfl (kM rfl rfl (kO rfl (a_add rfl rfl (by omega) (kM rfl rfl (i_nil (block_n (then_n ?_))))))))))))))))))))))))))))
       exact ⟨rfl, _, _, _, (show l.length - (i + 1) < l.length - i by omega), (lc 0 rfl (lc 4 rfl (lc 3 rfl Less.nil))), (.cons_cons _ (.cons _ .slnil)), ⟨i + 1, b35, G ++ [(i, 1)], (by simp), (by rw [flat2_app]; rfl), rfl, by omega, (gr_step hG (by omega) (by first | exact many_two (by omega) (by assumption) | exact many_one (by omega) | exact many_one2 (by assumption) | exact many_three (by omega) (by assumption) | exact many_one3 (by assumption))), (by simp; omega)⟩⟩
     ·refine kM rfl rfl (i_no rfl rfl (i_no rfl rfl (i_no rfl rfl (i_no rfl rfl (i_no rfl rfl (i_no rfl rfl (i_no rfl rfl (i_no rfl rfl (i_no rfl rfl (i_no rfl rfl (i_no rfl rfl (i_no rfl rfl (i_no rfl rfl (i_no rfl rfl (i_no rfl rfl (i_no rfl rfl (i_no rfl rfl (i_no rfl rfl (i_no rfl rfl (i_no rfl rfl (i_no rfl rfl (i_no rfl rfl (i_no rfl rfl ?_)))))))))))))))))))))))
      refine kO rfl (a_pick_f rfl rfl rfl (i_nil (r_cond_f rfl (r_skip (then_n (rS (kM rfl rfl (kM rfl rfl (kM rfl rfl (kO rfl (a_build rfl rfl (kO rfl (a_lit rfl rfl rfl (fun b36 => (kO rfl (a_app rfl rfl (Src.own .here rfl (by simp)) (.next .here) (by rw [flat2_len]) (.inl ⟨rfl, rfl⟩) (by decide) (by omega) (by omega) (fun b37 => (kM rfl rfl (i_nil (rI (kM rfl rfl (kM rfl rfl (kO rfl (a_add rfl rfl (by omega) (kM rfl rfl (i_nil (block_n (then_n ?_))))))))))))))))))))))))))))
      exact ⟨rfl, _, _, _, (show l.length - (i + 1) < l.length - i by omega), (lc 0 rfl (lc 4 rfl (lc 3 rfl Less.nil))), (.cons_cons _ (.cons _ .slnil)), ⟨i + 1, b37, G ++ [(i, 1)], (by simp), (by rw [flat2_app]; rfl), rfl, by omega, (gr_step hG (by omega) (by first | exact many_two (by omega) (by assumption) | exact many_one (by omega) | exact many_one2 (by assumption) | exact many_three (by omega) (by assumption) | exact many_one3 (by assumption))), (by simp; omega)⟩⟩
    ·refine i_nil (r_cond_f rfl (r_exit (then_e (then_e (block_hit (then_n (rS (kM rfl rfl (kM rfl rfl (i_nil (r_ret ?_)))))))))))
     first
      | exact end1A rfl (List.Sublist.refl _) ⟨b, by rw [gr_end hG (by omega)], by rw [gr_end hG (by omega)]⟩
      | (exfalso; omega)
  ·refine kM rfl rfl (i_no rfl rfl (i_no rfl rfl (i_no rfl rfl (i_no rfl rfl (i_no rfl rfl (i_no rfl rfl (i_no rfl rfl (i_no rfl rfl (i_no rfl rfl (i_no rfl rfl (i_no rfl rfl (i_no rfl rfl (i_no rfl rfl (i_no rfl rfl (i_no rfl rfl (i_no rfl rfl (i_no rfl rfl (i_no rfl rfl (i_no rfl rfl (i_no rfl rfl (i_no rfl rfl (i_no rfl rfl (i_no rfl rfl ?_)))))))))))))))))))))))
   refine kO rfl (a_pick_f rfl rfl rfl (i_nil (r_cond_f rfl (r_skip (then_n (rS (kM rfl rfl (kM rfl rfl (kM rfl rfl (kO rfl (a_build rfl rfl (kO rfl (a_lit rfl rfl rfl (fun b38 => (kO rfl (a_appn rfl rfl (Src.own .here rfl (by simp)) (by decide) (by omega) (by omega) (fun b39 => (kM rfl rfl (i_nil (rI (kM rfl rfl (kM rfl rfl (kO rfl (a_add rfl rfl (by decide) (kM rfl rfl (i_nil (block_n (then_n (r_loop (fun j e A => ∃ (i b : Nat) (G : List (Nat × Nat)), e = [(0, .slice a l.length cap), (4, .int .i64 (i : Int)), (3, .slice (some ⟨b, 0, none⟩) G.length OPEN)] ∧ A = (.row b 215 true (flat2 G) :: []) ∧ j = l.length - i ∧ i ≤ l.length ∧ grs l 0 = G ++ grs l i ∧ G.length ≤ i) 160 0 281474976710656 ?_ (j := _) (env2 := _) (A2 := _) ?_ ?_ ?_ ?_ ⟨1, b39, [(0, 1)], rfl, rfl, rfl, by omega, (gr_step (G := []) (i := 0) rfl (by omega) (by first | exact many_two (by omega) (by assumption) | exact many_one (by omega) | exact many_one2 (by assumption) | exact many_three (by omega) (by assumption) | exact many_one3 (by assumption))), (by simp)⟩)))))))))))))))))))))))))))))
   rotate_left
   ·omega
   ·omega
   ·exact (lc 0 rfl (lc 4 rfl (lc 3 rfl Less.nil)))
   ·exact (.cons_cons _ (.cons _ .slnil))
   rintro n hn j _ _ ⟨i, b, G, rfl, rfl, rfl, hi, hG, hGl⟩
   have z0 := hp.lo (i)
   have z1 := hp.lo (i + 1)
   have z2 := hp.lo (i + 2)
   have r0 : i + 1 < l.length → l.getD (i) 0 < l.getD (i + 1) 0 := fun h => hp.rise _ h
   have r1 : i + 2 < l.length → l.getD (i + 1) 0 < l.getD (i + 2) 0 := fun h => hp.rise _ h
   have hm9 := hp.hm
   have h29 := hp.h2
   refine rQ (rS (kM rfl rfl (kO rfl (a_add rfl rfl (by omega) (kM rfl rfl (kO rfl (a_lenx rfl hl.spot (kO rfl (a_lss rfl rfl (fun h40 => ?_) (fun h40 => ?_))))))))))
   ·refine i_nil (r_cond_t rfl (r_skip (then_n (r_block (rS (kM rfl rfl (i_nil (rQ (rS (kM rfl rfl (kO rfl (a_add rfl rfl (by omega) (kM rfl rfl (kO rfl (a_lenx rfl hl.spot (kO rfl (a_lss rfl rfl (fun h41 => ?_) (fun h41 => ?_))))))))))))))))))
    ·refine kM rfl rfl (kG rfl rfl (a_mov rfl (kG rfl rfl (a_mov rfl (kG rfl rfl (a_add rfl rfl (by omega) (kG rfl rfl (a_iaI (j := i + 1) hl rfl rfl (by omega) (by simp) (by omega) (fun _ _ a42 => (kG rfl rfl (a_ldr rfl (hl.at a42 (by omega)) (kG rfl rfl (a_mov rfl (kG rfl rfl (a_mov rfl (kG rfl rfl (a_iaI (j := i) hl rfl rfl (by omega) (by simp) (by omega) (fun _ _ a43 => (kG rfl rfl (a_ldr rfl (hl.at a43 (by omega)) (kG rfl rfl (a_sub rfl rfl (by omega) (kG rfl rfl (a_mov rfl (kG rfl rfl (a_mov rfl (kG rfl rfl (a_add rfl rfl (by omega) (kG rfl rfl (a_iaI (j := i + 2) hl rfl rfl (by omega) (by simp) (by omega) (fun _ _ a44 => (kG rfl rfl (a_ldr rfl (hl.at a44 (by omega)) (kG rfl rfl (a_mov rfl (kG rfl rfl (a_mov rfl (kG rfl rfl (a_add rfl rfl (by omega) (kG rfl rfl (a_iaI (j := i + 1) hl rfl rfl (by omega) (by simp) (by omega) (fun _ _ a45 => (kG rfl rfl (a_ldr rfl (hl.at a45 (by omega)) (kG rfl rfl (a_sub rfl rfl (by omega) (kG rfl rfl (a_callV rfl rfl (fun s1 h1 => ratio_s _ _ _ s1 h1.wf (by omega) (by omega)) (kG rfl rfl (a_neq rfl rfl (fun h46 => ?_) (fun h46 => ?_)))))))))))))))))))))))))))))))))))))))))))))))))))
     ·refine kO rfl (a_pick_t rfl rfl rfl (i_nil (r_cond_t rfl (rI (kM rfl rfl (i_nil (then_n (rS (kM rfl rfl (kM rfl rfl (kM rfl rfl (kO rfl (a_build rfl rfl (kO rfl (a_lit rfl rfl rfl (fun b47 => (kO rfl (a_app rfl rfl (Src.own .here rfl (by simp)) (.next .here) (by rw [flat2_len]) (.inl ⟨rfl, rfl⟩) (by decide) (by omega) (by omega) (fun b48 => (kM rfl rfl (i_nil (rI (kM rfl rfl (kM rfl rfl (kO rfl (a_add rfl rfl (by omega) (kM rfl rfl (i_nil (block_n (then_n ?_))))))))))))))))))))))))))))))
      exact ⟨rfl, _, _, _, (show l.length - (i + 2) < l.length - i by omega), (lc 0 rfl (lc 4 rfl (lc 3 rfl Less.nil))), (.cons_cons _ (.cons _ .slnil)), ⟨i + 2, b48, G ++ [(i, 2)], (by simp), (by rw [flat2_app]; rfl), rfl, by omega, (gr_step hG (by omega) (by first | exact many_two (by omega) (by assumption) | exact many_one (by omega) | exact many_one2 (by assumption) | exact many_three (by omega) (by assumption) | exact many_one3 (by assumption))), (by simp; omega)⟩⟩
     ·refine kO rfl (a_pick_t rfl rfl rfl (i_nil (r_cond_f rfl (r_skip (then_n (rS (kM rfl rfl (kM rfl rfl (kM rfl rfl (kO rfl (a_build rfl rfl (kO rfl (a_lit rfl rfl rfl (fun b49 => (kO rfl (a_app rfl rfl (Src.own .here rfl (by simp)) (.next .here) (by rw [flat2_len]) (.inl ⟨rfl, rfl⟩) (by decide) (by omega) (by omega) (fun b50 => (kM rfl rfl (i_nil (rI (kM rfl rfl (kM rfl rfl (kO rfl (a_add rfl rfl (by omega) (kM rfl rfl (i_nil (block_n (then_n ?_))))))))))))))))))))))))))))
      exact ⟨rfl, _, _, _, (show l.length - (i + 1) < l.length - i by omega), (lc 0 rfl (lc 4 rfl (lc 3 rfl Less.nil))), (.cons_cons _ (.cons _ .slnil)), ⟨i + 1, b50, G ++ [(i, 1)], (by simp), (by rw [flat2_app]; rfl), rfl, by omega, (gr_step hG (by omega) (by first | exact many_two (by omega) (by assumption) | exact many_one (by omega) | exact many_one2 (by assumption) | exact many_three (by omega) (by assumption) | exact many_one3 (by assumption))), (by simp; omega)⟩⟩
    ·refine kM rfl rfl (i_no rfl rfl (i_no rfl rfl (i_no rfl rfl (i_no rfl rfl (i_no rfl rfl (i_no rfl rfl (i_no rfl rfl (i_no rfl rfl (i_no rfl rfl (i_no rfl rfl (i_no rfl rfl (i_no rfl rfl (i_no rfl rfl (i_no rfl rfl (i_no rfl rfl (i_no rfl rfl (i_no rfl rfl (i_no rfl rfl (i_no rfl rfl (i_no rfl rfl (i_no rfl rfl (i_no rfl rfl (i_no rfl rfl ?_)))))))))))))))))))))))
     refine kO rfl (a_pick_f rfl rfl rfl (i_nil (r_cond_f rfl (r_skip (then_n (rS (kM rfl rfl (kM rfl rfl (kM rfl rfl (kO rfl (a_build rfl rfl (kO rfl (a_lit rfl rfl rfl (fun b51 => (kO rfl (a_app rfl rfl (Src.own .here rfl (by simp)) (.next .here) (by rw [flat2_len]) (.inl ⟨rfl, rfl⟩) (by decide) (by omega) (by omega) (fun b52 => (kM rfl rfl (i_nil (rI (kM rfl rfl (kM rfl rfl (kO rfl (a_add rfl rfl (by omega) (kM rfl rfl (i_nil (block_n (then_n ?_))))))))))))))))))))))))))))
     exact ⟨rfl, _, _, _, (show l.length - (i + 1) < l.length - i by omega), (lc 0 rfl (lc 4 rfl (lc 3 rfl Less.nil))), (.cons_cons _ (.cons _ .slnil)), ⟨i + 1, b52, G ++ [(i, 1)], (by simp), (by rw [flat2_app]; rfl), rfl, by omega, (gr_step hG (by omega) (by first | exact many_two (by omega) (by assumption) | exact many_one (by omega) | exact many_one2 (by assumption) | exact many_three (by omega) (by assumption) | exact many_one3 (by assumption))), (by simp; omega)⟩⟩
   ·refine i_nil (r_cond_f rfl (r_exit (then_e (then_e (block_hit (then_n (rS (kM rfl rfl (kM rfl rfl (i_nil (r_ret ?_)))))))))))
    first
     | exact end1A rfl (List.Sublist.refl _) ⟨b, by rw [gr_end hG (by omega)], by rw [gr_end hG (by omega)]⟩
     | (exfalso; omega)
 ·refine i_nil (r_cond_f rfl (r_exit (then_e (then_e (block_hit (then_n (rS (kM rfl rfl (kM rfl rfl (i_nil (r_ret ?_)))))))))))
  first
   | exact end1A rfl (List.Sublist.refl _) ⟨_, by rw [gr_end hG (by omega)], by rw [gr_end hG (by omega)]⟩
   | (exfalso; omega)

end
end Ev
end Go.Proofs.YtfhfjcfhanmbiaaGreat
