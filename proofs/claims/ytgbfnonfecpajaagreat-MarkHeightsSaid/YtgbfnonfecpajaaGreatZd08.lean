import Derived.Test.YtgbfnonfecpajaaGreatZd07
set_option linter.unusedVariables false
set_option linter.unusedSimpArgs false
/- Contracts, by the evaluator: heights. -/
namespace Go.Proofs.YtgbfnonfecpajaaGreat
open Go Go.RowKit
namespace Ev
theorem fb_bd {L : Int} {rs : List (List Int)} {i : Nat} (ht : tabB 0 rs = true) (hf : IsFst L rs i) : -2000000000 ≤ fbV L rs i ∧ fbV L rs i ≤ 2000000000 := by
  unfold fbV
  by_cases h1 : i = rs.length
  · rw [if_pos h1]; omega
  · rw [if_neg h1]
    have hi : i < rs.length := by have := hf.1; omega
    have two : ∀ {rs : List (List Int)} {b : Int}, tabB b rs = true → ∀ {k : Nat}, k < rs.length → ∃ l e, rs[k]? = some [l, e] := by
      intro rs
      induction rs with
      | nil => intro b h k hk; simp at hk
      | cons r rs ih =>
        intro b h k hk
        match r, h with
        | [l, e], h =>
          simp only [tabB, Bool.and_eq_true] at h
          cases k with
          | zero => exact ⟨l, e, rfl⟩
          | succ k => obtain ⟨l', e', he⟩ := ih h.2 (k := k) (by simpa using hk); exact ⟨l', e', by simpa using he⟩
        | [], h => simp [tabB] at h
        | [_], h => simp [tabB] at h
        | _ :: _ :: _ :: _, h => simp [tabB] at h
    obtain ⟨l, e, hr⟩ := two ht hi
    have hb := tab_row ht (by decide) hr
    rw [getD_of hr]
    by_cases h2 : [l, e].getD 0 0 = L
    · rw [if_pos h2]; show -2000000000 ≤ e ∧ e ≤ 2000000000; omega
    · rw [if_neg h2]
      by_cases h3 : i = 0
      · rw [if_pos h3]; omega
      · rw [if_neg h3]
        obtain ⟨l', e', hr'⟩ := two ht (show i - 1 < rs.length by omega)
        have hb' := tab_row ht (by decide) hr'
        rw [getD_of hr']
        show -2000000000 ≤ -((-(e' * (l - L) + e * (L - l'))) / (l - l')) ∧ -((-(e' * (l - L) + e * (L - l'))) / (l - l')) ≤ 2000000000
        have hlt : l' < L := by have := hf.2.1 (i - 1) (by omega); rw [getD_of hr'] at this; exact this
        have hgt : L < l := by have := hf.2.2 hi; rw [getD_of hr] at this; have h9 : L ≤ l := this; have h8 : ¬ l = L := h2; omega
        have hm1 := mul_bd (x := e') (y := l - L) (X := 5000) (Y := 100000) (by omega) (by omega) (by omega) (by omega)
        have hm2 := mul_bd (x := e) (y := L - l') (X := 5000) (Y := 100000) (by omega) (by omega) (by omega) (by omega)
        have hd : 0 < l - l' := by omega
        obtain ⟨q, hq⟩ : ∃ q, (-(e' * (l - L) + e * (L - l'))) / (l - l') = q := ⟨_, rfl⟩
        rw [hq]
        have h5 : q ≤ 0 := by rw [← hq]; exact Int.ediv_nonpos_of_nonpos_of_neg (by omega) hd
        have h6 : -1000000000 ≤ q := by
          rw [← hq]
          refine (Int.le_ediv_iff_mul_le hd).2 ?_
          have := Int.mul_le_mul_of_nonneg_left (show 1 ≤ l - l' by omega) (show (0 : Int) ≤ 1000000000 by omega)
          omega
        omega
theorem ext_bd {zone d : Int} {ss : List (List Int)} (h : seaB ss = true) : 0 ≤ extV zone d 0 ss ∧ extV zone d 0 ss ≤ 5000 := by
  have key : ∀ {ss : List (List Int)} {m : Int}, seaB ss = true → 0 ≤ m ∧ m ≤ 5000 → 0 ≤ extV zone d m ss ∧ extV zone d m ss ≤ 5000 := by
    intro ss
    induction ss with
    | nil => intro m _ hm; exact hm
    | cons r ss ih =>
      intro m h hm
      match r, h with
      | [z, f, t, e], h =>
        simp only [seaB, Bool.and_eq_true] at h
        have h1 := of_decide_eq_true h.1
        refine ih h.2 ?_
        split <;> omega
      | [], h => simp [seaB] at h
      | [_], h => simp [seaB] at h
      | [_, _], h => simp [seaB] at h
      | [_, _, _], h => simp [seaB] at h
      | _ :: _ :: _ :: _ :: _ :: _, h => simp [seaB] at h
  exact key h (by omega)

section
variable {X : FuncId → List Value → St → (Value → St → Bool) → Bool}
theorem checkWhen_s (n : Nat) (zone d : Int) (s : St) (hs : Wf s) : Spec Tryz.prog (tabK tabm) X (n + 100) 34 [.int .i64 zone, .int .i64 d] s (fun v A => (((1 ≤ zone ∧ zone ≤ 20) ∧ (0 ≤ d ∧ d ≤ 100000) ∧ v = .int .i64 0) ∨ (¬ (1 ≤ zone ∧ zone ≤ 20) ∧ v = .int .i64 65) ∨ ((1 ≤ zone ∧ zone ≤ 20) ∧ ¬ (0 ≤ d ∧ d ≤ 100000) ∧ v = .int .i64 6)) ∧ A = []) := by
  refine enter bm34_at rfl hs ?_
  unfold bm34
  refine r_seq ?_
  refine r_items ?_
  refine i_op (a_mov rfl ?_) rfl rfl
  refine i_nil ?_
  refine then_n ?_
  refine r_seq ?_
  refine r_items ?_
  refine i_op (a_mov rfl ?_) rfl rfl
  refine i_op (a_callB rfl rfl (fun s1 h1 => isZone_s _ _ s1 h1.wf) (fun h1 => ?_) (fun h1 => ?_)) rfl rfl
  · refine i_op (a_callV rfl rfl (fun s1 h1 => unless_t _ _ s1 h1.wf) ?_) rfl rfl
    refine i_op (a_mov rfl ?_) rfl rfl
    refine i_op (a_callB rfl rfl (fun s1 h1 => inside_s _ _ _ _ s1 h1.wf) (fun h2 => ?_) (fun h2 => ?_)) rfl rfl
    · refine i_op (a_callV rfl rfl (fun s1 h1 => unless_t _ _ s1 h1.wf) ?_) rfl rfl
      refine i_op (a_lit rfl rfl rfl (fun b3 => ?_)) rfl rfl
      refine i_op (a_callV rfl rfl (fun s1 h1 => or2_s _ _ _ _ _ _ s1 h1.wf ((h1.own .here).at rfl) ((h1.own .here).at rfl)) ?_) rfl rfl
      refine i_op (a_mov rfl ?_) rfl rfl
      refine i_nil ?_
      refine then_n ?_
      refine r_ret ?_
      by_cases z1 : (1 ≤ zone ∧ zone ≤ 20)
      · by_cases z2 : (0 ≤ d ∧ d ≤ 100000)
        · exact end1 rfl ⟨.inl ⟨z1, z2, by first | rfl | (exfalso; omega)⟩, rfl⟩
        · exact end1 rfl ⟨.inr (.inr ⟨z1, z2, by first | rfl | (exfalso; omega)⟩), rfl⟩
      · exact end1 rfl ⟨.inr (.inl ⟨z1, by first | rfl | (exfalso; omega)⟩), rfl⟩
    · refine i_op (a_callV rfl rfl (fun s1 h1 => unless_f _ _ s1 h1.wf) ?_) rfl rfl
      refine i_op (a_lit rfl rfl rfl (fun b4 => ?_)) rfl rfl
      refine i_op (a_callV rfl rfl (fun s1 h1 => or2_s _ _ _ _ _ _ s1 h1.wf ((h1.own .here).at rfl) ((h1.own .here).at rfl)) ?_) rfl rfl
      refine i_op (a_mov rfl ?_) rfl rfl
      refine i_nil ?_
      refine then_n ?_
      refine r_ret ?_
      by_cases z1 : (1 ≤ zone ∧ zone ≤ 20)
      · by_cases z2 : (0 ≤ d ∧ d ≤ 100000)
        · exact end1 rfl ⟨.inl ⟨z1, z2, by first | rfl | (exfalso; omega)⟩, rfl⟩
        · exact end1 rfl ⟨.inr (.inr ⟨z1, z2, by first | rfl | (exfalso; omega)⟩), rfl⟩
      · exact end1 rfl ⟨.inr (.inl ⟨z1, by first | rfl | (exfalso; omega)⟩), rfl⟩
  · refine i_op (a_callV rfl rfl (fun s1 h1 => unless_f _ _ s1 h1.wf) ?_) rfl rfl
    refine i_op (a_mov rfl ?_) rfl rfl
    refine i_op (a_callB rfl rfl (fun s1 h1 => inside_s _ _ _ _ s1 h1.wf) (fun h5 => ?_) (fun h5 => ?_)) rfl rfl
    · refine i_op (a_callV rfl rfl (fun s1 h1 => unless_t _ _ s1 h1.wf) ?_) rfl rfl
      refine i_op (a_lit rfl rfl rfl (fun b6 => ?_)) rfl rfl
      refine i_op (a_callV rfl rfl (fun s1 h1 => or2_s _ _ _ _ _ _ s1 h1.wf ((h1.own .here).at rfl) ((h1.own .here).at rfl)) ?_) rfl rfl
      refine i_op (a_mov rfl ?_) rfl rfl
      refine i_nil ?_
      refine then_n ?_
      refine r_ret ?_
      by_cases z1 : (1 ≤ zone ∧ zone ≤ 20)
      · by_cases z2 : (0 ≤ d ∧ d ≤ 100000)
        · exact end1 rfl ⟨.inl ⟨z1, z2, by first | rfl | (exfalso; omega)⟩, rfl⟩
        · exact end1 rfl ⟨.inr (.inr ⟨z1, z2, by first | rfl | (exfalso; omega)⟩), rfl⟩
      · exact end1 rfl ⟨.inr (.inl ⟨z1, by first | rfl | (exfalso; omega)⟩), rfl⟩
    · refine i_op (a_callV rfl rfl (fun s1 h1 => unless_f _ _ s1 h1.wf) ?_) rfl rfl
      refine i_op (a_lit rfl rfl rfl (fun b7 => ?_)) rfl rfl
      refine i_op (a_callV rfl rfl (fun s1 h1 => or2_s _ _ _ _ _ _ s1 h1.wf ((h1.own .here).at rfl) ((h1.own .here).at rfl)) ?_) rfl rfl
      refine i_op (a_mov rfl ?_) rfl rfl
      refine i_nil ?_
      refine then_n ?_
      refine r_ret ?_
      by_cases z1 : (1 ≤ zone ∧ zone ≤ 20)
      · by_cases z2 : (0 ≤ d ∧ d ≤ 100000)
        · exact end1 rfl ⟨.inl ⟨z1, z2, by first | rfl | (exfalso; omega)⟩, rfl⟩
        · exact end1 rfl ⟨.inr (.inr ⟨z1, z2, by first | rfl | (exfalso; omega)⟩), rfl⟩
      · exact end1 rfl ⟨.inr (.inl ⟨z1, by first | rfl | (exfalso; omega)⟩), rfl⟩

theorem rchecked_s (n : Nat) (L D : Int) (a c : Option Addr) (cap cap2 : Nat) (rs ss : List (List Int)) (zone d : Int) (s : St) (hs : Wf s) (hn : 281474976710656 ≤ n) (hR : RowsE s 2 a rs) (hS : RowsE s 4 c ss) : Spec Tryz.prog (tabK tabm) X (n + 500) 36 [.agg ⟨[.int .i64 L, .int .i64 D, .slice a rs.length cap, .slice c ss.length cap2]⟩, .int .i64 zone, .int .i64 d] s (fun v A => ((((1 ≤ L ∧ L ≤ 100000) ∧ (1 ≤ D ∧ D ≤ 15000) ∧ ((1 ≤ (rs.length : Int) ∧ (rs.length : Int) ≤ 20) ∧ tabB 0 rs = true) ∧ ((ss.length : Int) ≤ 30 ∧ seaB ss = true)) ∧ (1 ≤ zone ∧ zone ≤ 20) ∧ (0 ≤ d ∧ d ≤ 100000) ∧ v = .int .i64 0) ∨ (¬ ((1 ≤ L ∧ L ≤ 100000) ∧ (1 ≤ D ∧ D ≤ 15000) ∧ ((1 ≤ (rs.length : Int) ∧ (rs.length : Int) ≤ 20) ∧ tabB 0 rs = true) ∧ ((ss.length : Int) ≤ 30 ∧ seaB ss = true)) ∧ v = .int .i64 60) ∨ (((1 ≤ L ∧ L ≤ 100000) ∧ (1 ≤ D ∧ D ≤ 15000) ∧ ((1 ≤ (rs.length : Int) ∧ (rs.length : Int) ≤ 20) ∧ tabB 0 rs = true) ∧ ((ss.length : Int) ≤ 30 ∧ seaB ss = true)) ∧ ¬ (1 ≤ zone ∧ zone ≤ 20) ∧ v = .int .i64 65) ∨ (((1 ≤ L ∧ L ≤ 100000) ∧ (1 ≤ D ∧ D ≤ 15000) ∧ ((1 ≤ (rs.length : Int) ∧ (rs.length : Int) ≤ 20) ∧ tabB 0 rs = true) ∧ ((ss.length : Int) ≤ 30 ∧ seaB ss = true)) ∧ (1 ≤ zone ∧ zone ≤ 20) ∧ ¬ (0 ≤ d ∧ d ≤ 100000) ∧ v = .int .i64 6)) ∧ A = []) := by
  refine enter bm36_at rfl hs ?_
  unfold bm36
  refine r_seq ?_
  refine r_items ?_
  refine i_op (a_box rfl rfl rfl (fun b1 => ?_)) rfl rfl
  refine i_op (a_mov rfl ?_) rfl rfl
  refine i_nil ?_
  refine then_n ?_
  refine r_seq ?_
  refine r_seq ?_
  refine r_items ?_
  refine i_op (a_lda rfl (by decide) .here rfl ?_) rfl rfl
  refine i_op (a_callE rfl rfl (fun s1 h1 => rCheckLines_s _ _ _ _ _ _ _ _ _ s1 h1.wf (by omega) (hR.ext hs h1.2.1) (hS.ext hs h1.2.1)) (fun h2 => ?_) (fun h2 => ?_)) rfl rfl
  · refine i_op (a_neq rfl rfl (fun h => absurd h (by decide)) (fun _ => ?_)) rfl rfl
    refine i_nil ?_
    refine then_n ?_
    refine r_cond_f rfl ?_
    refine r_skip ?_
    refine then_n ?_
    refine r_seq ?_
    refine r_seq ?_
    refine r_items ?_
    refine i_op (a_mov rfl ?_) rfl rfl
    refine i_op (a_callB rfl rfl (fun s1 h1 => In_s _ _ _ _ s1 h1.wf) (fun h4 => ?_) (fun h4 => ?_)) rfl rfl
    · refine i_op (a_not rfl ?_) rfl rfl
      refine i_nil ?_
      refine then_n ?_
      refine r_cond_f rfl ?_
      refine r_skip ?_
      refine then_n ?_
      refine r_seq ?_
      refine r_seq ?_
      refine r_items ?_
      refine i_op (a_mov rfl ?_) rfl rfl
      refine i_op (a_callB rfl rfl (fun s1 h1 => In_s _ _ _ _ s1 h1.wf) (fun h5 => ?_) (fun h5 => ?_)) rfl rfl
      · refine i_op (a_not rfl ?_) rfl rfl
        refine i_nil ?_
        refine then_n ?_
        refine r_cond_f rfl ?_
        refine r_skip ?_
        refine then_n ?_
        refine r_seq ?_
        refine r_items ?_
        refine i_op (a_mov rfl ?_) rfl rfl
        refine i_nil ?_
        refine then_n ?_
        refine r_ret ?_
        by_cases z1 : ((1 ≤ L ∧ L ≤ 100000) ∧ (1 ≤ D ∧ D ≤ 15000) ∧ ((1 ≤ (rs.length : Int) ∧ (rs.length : Int) ≤ 20) ∧ tabB 0 rs = true) ∧ ((ss.length : Int) ≤ 30 ∧ seaB ss = true))
        · by_cases z2 : (1 ≤ zone ∧ zone ≤ 20)
          · by_cases z3 : (0 ≤ d ∧ d ≤ 100000)
            · exact end1 rfl ⟨.inl ⟨z1, z2, z3, by first | rfl | (exfalso; omega) | (exfalso; contradiction)⟩, rfl⟩
            · exact end1 rfl ⟨.inr (.inr (.inr ⟨z1, z2, z3, by first | rfl | (exfalso; omega) | (exfalso; contradiction)⟩)), rfl⟩
          · exact end1 rfl ⟨.inr (.inr (.inl ⟨z1, z2, by first | rfl | (exfalso; omega) | (exfalso; contradiction)⟩)), rfl⟩
        · exact end1 rfl ⟨.inr (.inl ⟨z1, by first | rfl | (exfalso; omega) | (exfalso; contradiction)⟩), rfl⟩
      · refine i_op (a_not rfl ?_) rfl rfl
        refine i_nil ?_
        refine then_n ?_
        refine r_cond_t rfl ?_
        refine r_seq ?_
        refine r_items ?_
        refine i_op (a_mov rfl ?_) rfl rfl
        refine i_nil ?_
        refine then_n ?_
        refine r_ret ?_
        refine then_r ?_
        by_cases z1 : ((1 ≤ L ∧ L ≤ 100000) ∧ (1 ≤ D ∧ D ≤ 15000) ∧ ((1 ≤ (rs.length : Int) ∧ (rs.length : Int) ≤ 20) ∧ tabB 0 rs = true) ∧ ((ss.length : Int) ≤ 30 ∧ seaB ss = true))
        · by_cases z2 : (1 ≤ zone ∧ zone ≤ 20)
          · by_cases z3 : (0 ≤ d ∧ d ≤ 100000)
            · exact end1 rfl ⟨.inl ⟨z1, z2, z3, by first | rfl | (exfalso; omega) | (exfalso; contradiction)⟩, rfl⟩
            · exact end1 rfl ⟨.inr (.inr (.inr ⟨z1, z2, z3, by first | rfl | (exfalso; omega) | (exfalso; contradiction)⟩)), rfl⟩
          · exact end1 rfl ⟨.inr (.inr (.inl ⟨z1, z2, by first | rfl | (exfalso; omega) | (exfalso; contradiction)⟩)), rfl⟩
        · exact end1 rfl ⟨.inr (.inl ⟨z1, by first | rfl | (exfalso; omega) | (exfalso; contradiction)⟩), rfl⟩
    · refine i_op (a_not rfl ?_) rfl rfl
      refine i_nil ?_
      refine then_n ?_
      refine r_cond_t rfl ?_
      refine r_seq ?_
      refine r_items ?_
      refine i_op (a_mov rfl ?_) rfl rfl
      refine i_nil ?_
      refine then_n ?_
      refine r_ret ?_
      refine then_r ?_
      by_cases z1 : ((1 ≤ L ∧ L ≤ 100000) ∧ (1 ≤ D ∧ D ≤ 15000) ∧ ((1 ≤ (rs.length : Int) ∧ (rs.length : Int) ≤ 20) ∧ tabB 0 rs = true) ∧ ((ss.length : Int) ≤ 30 ∧ seaB ss = true))
      · by_cases z2 : (1 ≤ zone ∧ zone ≤ 20)
        · by_cases z3 : (0 ≤ d ∧ d ≤ 100000)
          · exact end1 rfl ⟨.inl ⟨z1, z2, z3, by first | rfl | (exfalso; omega) | (exfalso; contradiction)⟩, rfl⟩
          · exact end1 rfl ⟨.inr (.inr (.inr ⟨z1, z2, z3, by first | rfl | (exfalso; omega) | (exfalso; contradiction)⟩)), rfl⟩
        · exact end1 rfl ⟨.inr (.inr (.inl ⟨z1, z2, by first | rfl | (exfalso; omega) | (exfalso; contradiction)⟩)), rfl⟩
      · exact end1 rfl ⟨.inr (.inl ⟨z1, by first | rfl | (exfalso; omega) | (exfalso; contradiction)⟩), rfl⟩
  · refine i_op (a_neq rfl rfl (fun _ => ?_) (fun h => absurd h (by decide))) rfl rfl
    refine i_nil ?_
    refine then_n ?_
    refine r_cond_t rfl ?_
    refine r_seq ?_
    refine r_items ?_
    refine i_op (a_mov rfl ?_) rfl rfl
    refine i_nil ?_
    refine then_n ?_
    refine r_ret ?_
    refine then_r ?_
    by_cases z1 : ((1 ≤ L ∧ L ≤ 100000) ∧ (1 ≤ D ∧ D ≤ 15000) ∧ ((1 ≤ (rs.length : Int) ∧ (rs.length : Int) ≤ 20) ∧ tabB 0 rs = true) ∧ ((ss.length : Int) ≤ 30 ∧ seaB ss = true))
    · by_cases z2 : (1 ≤ zone ∧ zone ≤ 20)
      · by_cases z3 : (0 ≤ d ∧ d ≤ 100000)
        · exact end1 rfl ⟨.inl ⟨z1, z2, z3, by first | rfl | (exfalso; omega) | (exfalso; contradiction)⟩, rfl⟩
        · exact end1 rfl ⟨.inr (.inr (.inr ⟨z1, z2, z3, by first | rfl | (exfalso; omega) | (exfalso; contradiction)⟩)), rfl⟩
      · exact end1 rfl ⟨.inr (.inr (.inl ⟨z1, z2, by first | rfl | (exfalso; omega) | (exfalso; contradiction)⟩)), rfl⟩
    · exact end1 rfl ⟨.inr (.inl ⟨z1, by first | rfl | (exfalso; omega) | (exfalso; contradiction)⟩), rfl⟩

theorem Freeboard_s (n : Nat) (L D : Int) (a c : Option Addr) (cap cap2 : Nat) (rs ss : List (List Int)) (s : St) (hs : Wf s) (hn : 281474976710656 ≤ n) (hR : RowsE s 2 a rs) (hS : RowsE s 4 c ss) : Spec Tryz.prog (tabK tabm) X (n + 600) 11 [.agg ⟨[.int .i64 L, .int .i64 D, .slice a rs.length cap, .slice c ss.length cap2]⟩] s (fun v A => (¬ ((1 ≤ L ∧ L ≤ 100000) ∧ (1 ≤ D ∧ D ≤ 15000) ∧ ((1 ≤ (rs.length : Int) ∧ (rs.length : Int) ≤ 20) ∧ tabB 0 rs = true) ∧ ((ss.length : Int) ≤ 30 ∧ seaB ss = true)) ∧ v = .tuple #[.int .i64 0, .int .i64 60] ∧ A = []) ∨ (((1 ≤ L ∧ L ≤ 100000) ∧ (1 ≤ D ∧ D ≤ 15000) ∧ ((1 ≤ (rs.length : Int) ∧ (rs.length : Int) ≤ 20) ∧ tabB 0 rs = true) ∧ ((ss.length : Int) ≤ 30 ∧ seaB ss = true)) ∧ ∃ i, IsFst L rs i ∧ v = .tuple #[.int .i64 (fbV L rs i), .int .i64 (fbE L rs i)] ∧ A = [])) := by
  refine enter bm11_at rfl hs ?_
  unfold bm11
  refine r_seq ?_
  refine r_items ?_
  refine i_op (a_box rfl rfl rfl (fun b1 => ?_)) rfl rfl
  refine i_op (a_mov rfl ?_) rfl rfl
  refine i_op (a_mov rfl ?_) rfl rfl
  refine i_nil ?_
  refine then_n ?_
  refine r_seq ?_
  refine r_seq ?_
  refine r_items ?_
  refine i_op (a_lda rfl (by decide) .here rfl ?_) rfl rfl
  refine i_op (a_callE rfl rfl (fun s1 h1 => CheckLines_s _ _ _ _ _ _ _ _ _ s1 h1.wf (by omega) (hR.ext hs h1.2.1) (hS.ext hs h1.2.1)) (fun h2 => ?_) (fun h2 => ?_)) rfl rfl
  · have hL := h2
    have hsea := hL.2.2.2.2
    have htab := hL.2.2.1.2
    have h0 : 0 < rs.length := (by omega)
    have hLL := hL.1
    refine i_op (a_mov rfl ?_) rfl rfl
    refine i_nil ?_
    refine then_n ?_
    refine r_seq ?_
    refine r_items ?_
    refine i_op (a_mov rfl ?_) rfl rfl
    refine i_op (a_neq rfl rfl (fun h => absurd h (by decide)) (fun _ => ?_)) rfl rfl
    refine i_nil ?_
    refine then_n ?_
    refine r_cond_f rfl ?_
    refine r_skip ?_
    refine then_n ?_
    refine r_seq ?_
    refine r_items ?_
    refine i_op (a_lda rfl (by decide) .here rfl ?_) rfl rfl
    refine i_op (a_call rfl rfl (fun s1 h1 => freeboard_s _ _ _ _ _ _ _ _ _ s1 h1.wf (by omega) (hR.ext hs h1.2.1) (hS.ext hs h1.2.1) htab h0 (by omega)) (fun v1 A1 q1 => ?_)) rfl rfl
    obtain ⟨i, hfst, rfl, rfl⟩ := q1
    have hbd := fb_bd htab hfst
    · refine i_op (a_ext rfl rfl ?_) rfl rfl
      refine i_op (a_ext rfl rfl ?_) rfl rfl
      refine i_op (a_mov rfl ?_) rfl rfl
      refine i_op (a_mov rfl ?_) rfl rfl
      refine i_nil ?_
      refine then_n ?_
      refine r_ret ?_
      first
        | exact end2 rfl rfl (.inl ⟨by assumption, rfl, rfl⟩)
        | exact end2 rfl rfl (.inr ⟨by assumption, i, hfst, rfl, rfl⟩)
        | (exfalso; contradiction)
  · refine i_op (a_mov rfl ?_) rfl rfl
    refine i_nil ?_
    refine then_n ?_
    refine r_seq ?_
    refine r_items ?_
    refine i_op (a_mov rfl ?_) rfl rfl
    refine i_op (a_neq rfl rfl (fun _ => ?_) (fun h => absurd h (by decide))) rfl rfl
    refine i_nil ?_
    refine then_n ?_
    refine r_cond_t rfl ?_
    refine r_seq ?_
    refine r_items ?_
    refine i_op (a_mov rfl ?_) rfl rfl
    refine i_op (a_mov rfl ?_) rfl rfl
    refine i_op (a_mov rfl ?_) rfl rfl
    refine i_nil ?_
    refine then_n ?_
    refine r_ret ?_
    refine then_r ?_
    first
      | exact end2 rfl rfl (.inl ⟨by assumption, rfl, rfl⟩)
      | exact end2 rfl rfl (.inr ⟨by assumption, i, hfst, rfl, rfl⟩)
      | (exfalso; contradiction)

theorem rFreeboard_s (n : Nat) (L D : Int) (a c : Option Addr) (cap cap2 : Nat) (rs ss : List (List Int)) (s : St) (hs : Wf s) (hn : 281474976710656 ≤ n) (hR : RowsE s 2 a rs) (hS : RowsE s 4 c ss) : Spec Tryz.prog (tabK tabm) X (n + 600) 12 [.agg ⟨[.int .i64 L, .int .i64 D, .slice a rs.length cap, .slice c ss.length cap2]⟩] s (fun v A => (¬ ((1 ≤ L ∧ L ≤ 100000) ∧ (1 ≤ D ∧ D ≤ 15000) ∧ ((1 ≤ (rs.length : Int) ∧ (rs.length : Int) ≤ 20) ∧ tabB 0 rs = true) ∧ ((ss.length : Int) ≤ 30 ∧ seaB ss = true)) ∧ v = .tuple #[.int .i64 0, .int .i64 60] ∧ A = []) ∨ (((1 ≤ L ∧ L ≤ 100000) ∧ (1 ≤ D ∧ D ≤ 15000) ∧ ((1 ≤ (rs.length : Int) ∧ (rs.length : Int) ≤ 20) ∧ tabB 0 rs = true) ∧ ((ss.length : Int) ≤ 30 ∧ seaB ss = true)) ∧ ∃ i, IsFst L rs i ∧ v = .tuple #[.int .i64 (fbV L rs i), .int .i64 (fbE L rs i)] ∧ A = [])) := by
  refine enter bm12_at rfl hs ?_
  unfold bm12
  refine r_seq ?_
  refine r_items ?_
  refine i_op (a_box rfl rfl rfl (fun b1 => ?_)) rfl rfl
  refine i_op (a_mov rfl ?_) rfl rfl
  refine i_op (a_mov rfl ?_) rfl rfl
  refine i_nil ?_
  refine then_n ?_
  refine r_seq ?_
  refine r_seq ?_
  refine r_items ?_
  refine i_op (a_lda rfl (by decide) .here rfl ?_) rfl rfl
  refine i_op (a_callE rfl rfl (fun s1 h1 => rCheckLines_s _ _ _ _ _ _ _ _ _ s1 h1.wf (by omega) (hR.ext hs h1.2.1) (hS.ext hs h1.2.1)) (fun h2 => ?_) (fun h2 => ?_)) rfl rfl
  · have hL := h2
    have hsea := hL.2.2.2.2
    have htab := hL.2.2.1.2
    have h0 : 0 < rs.length := (by omega)
    have hLL := hL.1
    refine i_op (a_neq rfl rfl (fun h => absurd h (by decide)) (fun _ => ?_)) rfl rfl
    refine i_nil ?_
    refine then_n ?_
    refine r_cond_f rfl ?_
    refine r_skip ?_
    refine then_n ?_
    refine r_seq ?_
    refine r_items ?_
    refine i_op (a_lda rfl (by decide) .here rfl ?_) rfl rfl
    refine i_op (a_call rfl rfl (fun s1 h1 => rfreeboard_s _ _ _ _ _ _ _ _ _ s1 h1.wf (by omega) (hR.ext hs h1.2.1) (hS.ext hs h1.2.1) htab h0 (by omega)) (fun v1 A1 q1 => ?_)) rfl rfl
    obtain ⟨i, hfst, rfl, rfl⟩ := q1
    have hbd := fb_bd htab hfst
    · refine i_op (a_ext rfl rfl ?_) rfl rfl
      refine i_op (a_ext rfl rfl ?_) rfl rfl
      refine i_op (a_mov rfl ?_) rfl rfl
      refine i_op (a_mov rfl ?_) rfl rfl
      refine i_nil ?_
      refine then_n ?_
      refine r_ret ?_
      first
        | exact end2 rfl rfl (.inl ⟨by assumption, rfl, rfl⟩)
        | exact end2 rfl rfl (.inr ⟨by assumption, i, hfst, rfl, rfl⟩)
        | (exfalso; contradiction)
  · refine i_op (a_neq rfl rfl (fun _ => ?_) (fun h => absurd h (by decide))) rfl rfl
    refine i_nil ?_
    refine then_n ?_
    refine r_cond_t rfl ?_
    refine r_seq ?_
    refine r_items ?_
    refine i_op (a_mov rfl ?_) rfl rfl
    refine i_op (a_mov rfl ?_) rfl rfl
    refine i_nil ?_
    refine then_n ?_
    refine r_ret ?_
    refine then_r ?_
    first
      | exact end2 rfl rfl (.inl ⟨by assumption, rfl, rfl⟩)
      | exact end2 rfl rfl (.inr ⟨by assumption, i, hfst, rfl, rfl⟩)
      | (exfalso; contradiction)

theorem Extra_s (n : Nat) (L D : Int) (a c : Option Addr) (cap cap2 : Nat) (rs ss : List (List Int)) (zone d : Int) (s : St) (hs : Wf s) (hn : 281474976710656 ≤ n) (hR : RowsE s 2 a rs) (hS : RowsE s 4 c ss) : Spec Tryz.prog (tabK tabm) X (n + 700) 13 [.agg ⟨[.int .i64 L, .int .i64 D, .slice a rs.length cap, .slice c ss.length cap2]⟩, .int .i64 zone, .int .i64 d] s (fun v A => (¬ ((1 ≤ L ∧ L ≤ 100000) ∧ (1 ≤ D ∧ D ≤ 15000) ∧ ((1 ≤ (rs.length : Int) ∧ (rs.length : Int) ≤ 20) ∧ tabB 0 rs = true) ∧ ((ss.length : Int) ≤ 30 ∧ seaB ss = true)) ∧ v = .tuple #[.int .i64 0, .int .i64 60] ∧ A = []) ∨ (((1 ≤ L ∧ L ≤ 100000) ∧ (1 ≤ D ∧ D ≤ 15000) ∧ ((1 ≤ (rs.length : Int) ∧ (rs.length : Int) ≤ 20) ∧ tabB 0 rs = true) ∧ ((ss.length : Int) ≤ 30 ∧ seaB ss = true)) ∧ ¬ (1 ≤ zone ∧ zone ≤ 20) ∧ v = .tuple #[.int .i64 0, .int .i64 65] ∧ A = []) ∨ (((1 ≤ L ∧ L ≤ 100000) ∧ (1 ≤ D ∧ D ≤ 15000) ∧ ((1 ≤ (rs.length : Int) ∧ (rs.length : Int) ≤ 20) ∧ tabB 0 rs = true) ∧ ((ss.length : Int) ≤ 30 ∧ seaB ss = true)) ∧ (1 ≤ zone ∧ zone ≤ 20) ∧ ¬ (0 ≤ d ∧ d ≤ 100000) ∧ v = .tuple #[.int .i64 0, .int .i64 6] ∧ A = []) ∨ (((1 ≤ L ∧ L ≤ 100000) ∧ (1 ≤ D ∧ D ≤ 15000) ∧ ((1 ≤ (rs.length : Int) ∧ (rs.length : Int) ≤ 20) ∧ tabB 0 rs = true) ∧ ((ss.length : Int) ≤ 30 ∧ seaB ss = true)) ∧ (1 ≤ zone ∧ zone ≤ 20) ∧ (0 ≤ d ∧ d ≤ 100000) ∧ v = .tuple #[.int .i64 (extV zone d 0 ss), .int .i64 0] ∧ A = [])) := by
  refine enter bm13_at rfl hs ?_
  unfold bm13
  refine r_seq ?_
  refine r_items ?_
  refine i_op (a_box rfl rfl rfl (fun b1 => ?_)) rfl rfl
  refine i_op (a_mov rfl ?_) rfl rfl
  refine i_op (a_mov rfl ?_) rfl rfl
  refine i_nil ?_
  refine then_n ?_
  refine r_seq ?_
  refine r_seq ?_
  refine r_items ?_
  refine i_op (a_lda rfl (by decide) .here rfl ?_) rfl rfl
  refine i_op (a_callE rfl rfl (fun s1 h1 => CheckLines_s _ _ _ _ _ _ _ _ _ s1 h1.wf (by omega) (hR.ext hs h1.2.1) (hS.ext hs h1.2.1)) (fun h2 => ?_) (fun h2 => ?_)) rfl rfl
  · have hL := h2
    have hsea := hL.2.2.2.2
    have htab := hL.2.2.1.2
    have h0 : 0 < rs.length := (by omega)
    have hLL := hL.1
    refine i_op (a_mov rfl ?_) rfl rfl
    refine i_op (a_mov rfl ?_) rfl rfl
    refine i_op (a_call rfl rfl (fun s1 h1 => checkWhen_s _ _ _ s1 h1.wf) (fun v1 A1 q1 => ?_)) rfl rfl
    rcases q1 with ⟨⟨hz, hd, rfl⟩ | ⟨hz, rfl⟩ | ⟨hz, hd, rfl⟩, rfl⟩
    · refine i_op (a_lit rfl rfl rfl (fun b3 => ?_)) rfl rfl
      refine i_op (a_callV rfl rfl (fun s1 h1 => or2_s _ _ _ _ _ _ s1 h1.wf ((h1.own .here).at rfl) ((h1.own .here).at rfl)) ?_) rfl rfl
      refine i_op (a_mov rfl ?_) rfl rfl
      refine i_nil ?_
      refine then_n ?_
      refine r_seq ?_
      refine r_items ?_
      refine i_op (a_mov rfl ?_) rfl rfl
      refine i_op (a_neq rfl rfl (fun h => absurd h (by decide)) (fun _ => ?_)) rfl rfl
      refine i_nil ?_
      refine then_n ?_
      refine r_cond_f rfl ?_
      refine r_skip ?_
      refine then_n ?_
      refine r_seq ?_
      refine r_items ?_
      refine i_op (a_lda rfl (by decide) (.next .here) rfl ?_) rfl rfl
      refine i_op (a_mov rfl ?_) rfl rfl
      refine i_op (a_mov rfl ?_) rfl rfl
      refine i_op (a_callV rfl rfl (fun s1 h1 => extraOn_s _ _ _ _ _ _ _ _ _ _ _ s1 h1.wf (by omega) (hR.ext hs h1.2.1) (hS.ext hs h1.2.1) (by assumption) (by omega)) ?_) rfl rfl
      refine i_op (a_mov rfl ?_) rfl rfl
      refine i_op (a_mov rfl ?_) rfl rfl
      refine i_nil ?_
      refine then_n ?_
      refine r_ret ?_
      by_cases z1 : ((1 ≤ L ∧ L ≤ 100000) ∧ (1 ≤ D ∧ D ≤ 15000) ∧ ((1 ≤ (rs.length : Int) ∧ (rs.length : Int) ≤ 20) ∧ tabB 0 rs = true) ∧ ((ss.length : Int) ≤ 30 ∧ seaB ss = true))
      · by_cases z2 : (1 ≤ zone ∧ zone ≤ 20)
        · by_cases z3 : (0 ≤ d ∧ d ≤ 100000)
          · refine end2 rfl rfl (.inr (.inr (.inr ⟨z1, z2, z3, ?_⟩)))
            first | exact ⟨rfl, rfl⟩ | (exfalso; contradiction) | (exfalso; omega)
          · refine end2 rfl rfl (.inr (.inr (.inl ⟨z1, z2, z3, ?_, rfl⟩)))
            first | rfl | (exfalso; contradiction) | (exfalso; omega)
        · refine end2 rfl rfl (.inr (.inl ⟨z1, z2, ?_, rfl⟩))
          first | rfl | (exfalso; contradiction) | (exfalso; omega)
      · refine end2 rfl rfl (.inl ⟨z1, ?_, rfl⟩)
        first | rfl | (exfalso; contradiction) | (exfalso; omega)
    · refine i_op (a_lit rfl rfl rfl (fun b5 => ?_)) rfl rfl
      refine i_op (a_callV rfl rfl (fun s1 h1 => or2_s _ _ _ _ _ _ s1 h1.wf ((h1.own .here).at rfl) ((h1.own .here).at rfl)) ?_) rfl rfl
      refine i_op (a_mov rfl ?_) rfl rfl
      refine i_nil ?_
      refine then_n ?_
      refine r_seq ?_
      refine r_items ?_
      refine i_op (a_mov rfl ?_) rfl rfl
      refine i_op (a_neq rfl rfl (fun _ => ?_) (fun h => absurd h (by decide))) rfl rfl
      refine i_nil ?_
      refine then_n ?_
      refine r_cond_t rfl ?_
      refine r_seq ?_
      refine r_items ?_
      refine i_op (a_mov rfl ?_) rfl rfl
      refine i_op (a_mov rfl ?_) rfl rfl
      refine i_op (a_mov rfl ?_) rfl rfl
      refine i_nil ?_
      refine then_n ?_
      refine r_ret ?_
      refine then_r ?_
      by_cases z1 : ((1 ≤ L ∧ L ≤ 100000) ∧ (1 ≤ D ∧ D ≤ 15000) ∧ ((1 ≤ (rs.length : Int) ∧ (rs.length : Int) ≤ 20) ∧ tabB 0 rs = true) ∧ ((ss.length : Int) ≤ 30 ∧ seaB ss = true))
      · by_cases z2 : (1 ≤ zone ∧ zone ≤ 20)
        · by_cases z3 : (0 ≤ d ∧ d ≤ 100000)
          · refine end2 rfl rfl (.inr (.inr (.inr ⟨z1, z2, z3, ?_⟩)))
            first | exact ⟨rfl, rfl⟩ | (exfalso; contradiction) | (exfalso; omega)
          · refine end2 rfl rfl (.inr (.inr (.inl ⟨z1, z2, z3, ?_, rfl⟩)))
            first | rfl | (exfalso; contradiction) | (exfalso; omega)
        · refine end2 rfl rfl (.inr (.inl ⟨z1, z2, ?_, rfl⟩))
          first | rfl | (exfalso; contradiction) | (exfalso; omega)
      · refine end2 rfl rfl (.inl ⟨z1, ?_, rfl⟩)
        first | rfl | (exfalso; contradiction) | (exfalso; omega)
    · refine i_op (a_lit rfl rfl rfl (fun b7 => ?_)) rfl rfl
      refine i_op (a_callV rfl rfl (fun s1 h1 => or2_s _ _ _ _ _ _ s1 h1.wf ((h1.own .here).at rfl) ((h1.own .here).at rfl)) ?_) rfl rfl
      refine i_op (a_mov rfl ?_) rfl rfl
      refine i_nil ?_
      refine then_n ?_
      refine r_seq ?_
      refine r_items ?_
      refine i_op (a_mov rfl ?_) rfl rfl
      refine i_op (a_neq rfl rfl (fun _ => ?_) (fun h => absurd h (by decide))) rfl rfl
      refine i_nil ?_
      refine then_n ?_
      refine r_cond_t rfl ?_
      refine r_seq ?_
      refine r_items ?_
      refine i_op (a_mov rfl ?_) rfl rfl
      refine i_op (a_mov rfl ?_) rfl rfl
      refine i_op (a_mov rfl ?_) rfl rfl
      refine i_nil ?_
      refine then_n ?_
      refine r_ret ?_
      refine then_r ?_
      by_cases z1 : ((1 ≤ L ∧ L ≤ 100000) ∧ (1 ≤ D ∧ D ≤ 15000) ∧ ((1 ≤ (rs.length : Int) ∧ (rs.length : Int) ≤ 20) ∧ tabB 0 rs = true) ∧ ((ss.length : Int) ≤ 30 ∧ seaB ss = true))
      · by_cases z2 : (1 ≤ zone ∧ zone ≤ 20)
        · by_cases z3 : (0 ≤ d ∧ d ≤ 100000)
          · refine end2 rfl rfl (.inr (.inr (.inr ⟨z1, z2, z3, ?_⟩)))
            first | exact ⟨rfl, rfl⟩ | (exfalso; contradiction) | (exfalso; omega)
          · refine end2 rfl rfl (.inr (.inr (.inl ⟨z1, z2, z3, ?_, rfl⟩)))
            first | rfl | (exfalso; contradiction) | (exfalso; omega)
        · refine end2 rfl rfl (.inr (.inl ⟨z1, z2, ?_, rfl⟩))
          first | rfl | (exfalso; contradiction) | (exfalso; omega)
      · refine end2 rfl rfl (.inl ⟨z1, ?_, rfl⟩)
        first | rfl | (exfalso; contradiction) | (exfalso; omega)
  · refine i_op (a_mov rfl ?_) rfl rfl
    refine i_op (a_mov rfl ?_) rfl rfl
    refine i_op (a_call rfl rfl (fun s1 h1 => checkWhen_s _ _ _ s1 h1.wf) (fun v1 A1 q1 => ?_)) rfl rfl
    rcases q1 with ⟨⟨hz, hd, rfl⟩ | ⟨hz, rfl⟩ | ⟨hz, hd, rfl⟩, rfl⟩
    · refine i_op (a_lit rfl rfl rfl (fun b9 => ?_)) rfl rfl
      refine i_op (a_callV rfl rfl (fun s1 h1 => or2_s _ _ _ _ _ _ s1 h1.wf ((h1.own .here).at rfl) ((h1.own .here).at rfl)) ?_) rfl rfl
      refine i_op (a_mov rfl ?_) rfl rfl
      refine i_nil ?_
      refine then_n ?_
      refine r_seq ?_
      refine r_items ?_
      refine i_op (a_mov rfl ?_) rfl rfl
      refine i_op (a_neq rfl rfl (fun _ => ?_) (fun h => absurd h (by decide))) rfl rfl
      refine i_nil ?_
      refine then_n ?_
      refine r_cond_t rfl ?_
      refine r_seq ?_
      refine r_items ?_
      refine i_op (a_mov rfl ?_) rfl rfl
      refine i_op (a_mov rfl ?_) rfl rfl
      refine i_op (a_mov rfl ?_) rfl rfl
      refine i_nil ?_
      refine then_n ?_
      refine r_ret ?_
      refine then_r ?_
      by_cases z1 : ((1 ≤ L ∧ L ≤ 100000) ∧ (1 ≤ D ∧ D ≤ 15000) ∧ ((1 ≤ (rs.length : Int) ∧ (rs.length : Int) ≤ 20) ∧ tabB 0 rs = true) ∧ ((ss.length : Int) ≤ 30 ∧ seaB ss = true))
      · by_cases z2 : (1 ≤ zone ∧ zone ≤ 20)
        · by_cases z3 : (0 ≤ d ∧ d ≤ 100000)
          · refine end2 rfl rfl (.inr (.inr (.inr ⟨z1, z2, z3, ?_⟩)))
            first | exact ⟨rfl, rfl⟩ | (exfalso; contradiction) | (exfalso; omega)
          · refine end2 rfl rfl (.inr (.inr (.inl ⟨z1, z2, z3, ?_, rfl⟩)))
            first | rfl | (exfalso; contradiction) | (exfalso; omega)
        · refine end2 rfl rfl (.inr (.inl ⟨z1, z2, ?_, rfl⟩))
          first | rfl | (exfalso; contradiction) | (exfalso; omega)
      · refine end2 rfl rfl (.inl ⟨z1, ?_, rfl⟩)
        first | rfl | (exfalso; contradiction) | (exfalso; omega)
    · refine i_op (a_lit rfl rfl rfl (fun b11 => ?_)) rfl rfl
      refine i_op (a_callV rfl rfl (fun s1 h1 => or2_s _ _ _ _ _ _ s1 h1.wf ((h1.own .here).at rfl) ((h1.own .here).at rfl)) ?_) rfl rfl
      refine i_op (a_mov rfl ?_) rfl rfl
      refine i_nil ?_
      refine then_n ?_
      refine r_seq ?_
      refine r_items ?_
      refine i_op (a_mov rfl ?_) rfl rfl
      refine i_op (a_neq rfl rfl (fun _ => ?_) (fun h => absurd h (by decide))) rfl rfl
      refine i_nil ?_
      refine then_n ?_
      refine r_cond_t rfl ?_
      refine r_seq ?_
      refine r_items ?_
      refine i_op (a_mov rfl ?_) rfl rfl
      refine i_op (a_mov rfl ?_) rfl rfl
      refine i_op (a_mov rfl ?_) rfl rfl
      refine i_nil ?_
      refine then_n ?_
      refine r_ret ?_
      refine then_r ?_
      by_cases z1 : ((1 ≤ L ∧ L ≤ 100000) ∧ (1 ≤ D ∧ D ≤ 15000) ∧ ((1 ≤ (rs.length : Int) ∧ (rs.length : Int) ≤ 20) ∧ tabB 0 rs = true) ∧ ((ss.length : Int) ≤ 30 ∧ seaB ss = true))
      · by_cases z2 : (1 ≤ zone ∧ zone ≤ 20)
        · by_cases z3 : (0 ≤ d ∧ d ≤ 100000)
          · refine end2 rfl rfl (.inr (.inr (.inr ⟨z1, z2, z3, ?_⟩)))
            first | exact ⟨rfl, rfl⟩ | (exfalso; contradiction) | (exfalso; omega)
          · refine end2 rfl rfl (.inr (.inr (.inl ⟨z1, z2, z3, ?_, rfl⟩)))
            first | rfl | (exfalso; contradiction) | (exfalso; omega)
        · refine end2 rfl rfl (.inr (.inl ⟨z1, z2, ?_, rfl⟩))
          first | rfl | (exfalso; contradiction) | (exfalso; omega)
      · refine end2 rfl rfl (.inl ⟨z1, ?_, rfl⟩)
        first | rfl | (exfalso; contradiction) | (exfalso; omega)
    · refine i_op (a_lit rfl rfl rfl (fun b13 => ?_)) rfl rfl
      refine i_op (a_callV rfl rfl (fun s1 h1 => or2_s _ _ _ _ _ _ s1 h1.wf ((h1.own .here).at rfl) ((h1.own .here).at rfl)) ?_) rfl rfl
      refine i_op (a_mov rfl ?_) rfl rfl
      refine i_nil ?_
      refine then_n ?_
      refine r_seq ?_
      refine r_items ?_
      refine i_op (a_mov rfl ?_) rfl rfl
      refine i_op (a_neq rfl rfl (fun _ => ?_) (fun h => absurd h (by decide))) rfl rfl
      refine i_nil ?_
      refine then_n ?_
      refine r_cond_t rfl ?_
      refine r_seq ?_
      refine r_items ?_
      refine i_op (a_mov rfl ?_) rfl rfl
      refine i_op (a_mov rfl ?_) rfl rfl
      refine i_op (a_mov rfl ?_) rfl rfl
      refine i_nil ?_
      refine then_n ?_
      refine r_ret ?_
      refine then_r ?_
      by_cases z1 : ((1 ≤ L ∧ L ≤ 100000) ∧ (1 ≤ D ∧ D ≤ 15000) ∧ ((1 ≤ (rs.length : Int) ∧ (rs.length : Int) ≤ 20) ∧ tabB 0 rs = true) ∧ ((ss.length : Int) ≤ 30 ∧ seaB ss = true))
      · by_cases z2 : (1 ≤ zone ∧ zone ≤ 20)
        · by_cases z3 : (0 ≤ d ∧ d ≤ 100000)
          · refine end2 rfl rfl (.inr (.inr (.inr ⟨z1, z2, z3, ?_⟩)))
            first | exact ⟨rfl, rfl⟩ | (exfalso; contradiction) | (exfalso; omega)
          · refine end2 rfl rfl (.inr (.inr (.inl ⟨z1, z2, z3, ?_, rfl⟩)))
            first | rfl | (exfalso; contradiction) | (exfalso; omega)
        · refine end2 rfl rfl (.inr (.inl ⟨z1, z2, ?_, rfl⟩))
          first | rfl | (exfalso; contradiction) | (exfalso; omega)
      · refine end2 rfl rfl (.inl ⟨z1, ?_, rfl⟩)
        first | rfl | (exfalso; contradiction) | (exfalso; omega)

theorem rExtra_s (n : Nat) (L D : Int) (a c : Option Addr) (cap cap2 : Nat) (rs ss : List (List Int)) (zone d : Int) (s : St) (hs : Wf s) (hn : 281474976710656 ≤ n) (hR : RowsE s 2 a rs) (hS : RowsE s 4 c ss) : Spec Tryz.prog (tabK tabm) X (n + 700) 14 [.agg ⟨[.int .i64 L, .int .i64 D, .slice a rs.length cap, .slice c ss.length cap2]⟩, .int .i64 zone, .int .i64 d] s (fun v A => (¬ ((1 ≤ L ∧ L ≤ 100000) ∧ (1 ≤ D ∧ D ≤ 15000) ∧ ((1 ≤ (rs.length : Int) ∧ (rs.length : Int) ≤ 20) ∧ tabB 0 rs = true) ∧ ((ss.length : Int) ≤ 30 ∧ seaB ss = true)) ∧ v = .tuple #[.int .i64 0, .int .i64 60] ∧ A = []) ∨ (((1 ≤ L ∧ L ≤ 100000) ∧ (1 ≤ D ∧ D ≤ 15000) ∧ ((1 ≤ (rs.length : Int) ∧ (rs.length : Int) ≤ 20) ∧ tabB 0 rs = true) ∧ ((ss.length : Int) ≤ 30 ∧ seaB ss = true)) ∧ ¬ (1 ≤ zone ∧ zone ≤ 20) ∧ v = .tuple #[.int .i64 0, .int .i64 65] ∧ A = []) ∨ (((1 ≤ L ∧ L ≤ 100000) ∧ (1 ≤ D ∧ D ≤ 15000) ∧ ((1 ≤ (rs.length : Int) ∧ (rs.length : Int) ≤ 20) ∧ tabB 0 rs = true) ∧ ((ss.length : Int) ≤ 30 ∧ seaB ss = true)) ∧ (1 ≤ zone ∧ zone ≤ 20) ∧ ¬ (0 ≤ d ∧ d ≤ 100000) ∧ v = .tuple #[.int .i64 0, .int .i64 6] ∧ A = []) ∨ (((1 ≤ L ∧ L ≤ 100000) ∧ (1 ≤ D ∧ D ≤ 15000) ∧ ((1 ≤ (rs.length : Int) ∧ (rs.length : Int) ≤ 20) ∧ tabB 0 rs = true) ∧ ((ss.length : Int) ≤ 30 ∧ seaB ss = true)) ∧ (1 ≤ zone ∧ zone ≤ 20) ∧ (0 ≤ d ∧ d ≤ 100000) ∧ v = .tuple #[.int .i64 (extV zone d 0 ss), .int .i64 0] ∧ A = [])) := by
  refine enter bm14_at rfl hs ?_
  unfold bm14
  refine r_seq ?_
  refine r_items ?_
  refine i_op (a_box rfl rfl rfl (fun b1 => ?_)) rfl rfl
  refine i_op (a_mov rfl ?_) rfl rfl
  refine i_op (a_mov rfl ?_) rfl rfl
  refine i_nil ?_
  refine then_n ?_
  refine r_seq ?_
  refine r_items ?_
  refine i_op (a_lda rfl (by decide) .here rfl ?_) rfl rfl
  refine i_op (a_mov rfl ?_) rfl rfl
  refine i_op (a_mov rfl ?_) rfl rfl
  refine i_op (a_call rfl rfl (fun s1 h1 => rchecked_s _ _ _ _ _ _ _ _ _ _ _ s1 h1.wf (by omega) (hR.ext hs h1.2.1) (hS.ext hs h1.2.1)) (fun v1 A1 q1 => ?_)) rfl rfl
  rcases q1 with ⟨⟨hL, hz, hd, rfl⟩ | ⟨hL, rfl⟩ | ⟨hL, hz, rfl⟩ | ⟨hL, hz, hd, rfl⟩, rfl⟩
  · have hsea := hL.2.2.2.2
    have htab := hL.2.2.1.2
    have h0 : 0 < rs.length := (by omega)
    have hLL := hL.1
    refine i_op (a_mov rfl ?_) rfl rfl
    refine i_nil ?_
    refine then_n ?_
    refine r_seq ?_
    refine r_seq ?_
    refine r_items ?_
    refine i_op (a_mov rfl ?_) rfl rfl
    refine i_op (a_neq rfl rfl (fun h => absurd h (by decide)) (fun _ => ?_)) rfl rfl
    refine i_nil ?_
    refine then_n ?_
    refine r_cond_f rfl ?_
    refine r_skip ?_
    refine then_n ?_
    refine r_seq ?_
    refine r_items ?_
    refine i_op (a_lda rfl (by decide) .here rfl ?_) rfl rfl
    refine i_op (a_mov rfl ?_) rfl rfl
    refine i_op (a_mov rfl ?_) rfl rfl
    refine i_op (a_callV rfl rfl (fun s1 h1 => rextra_s _ _ _ _ _ _ _ _ _ _ _ s1 h1.wf (by omega) (hR.ext hs h1.2.1) (hS.ext hs h1.2.1) (by assumption) (by omega)) ?_) rfl rfl
    refine i_op (a_mov rfl ?_) rfl rfl
    refine i_op (a_mov rfl ?_) rfl rfl
    refine i_nil ?_
    refine then_n ?_
    refine r_ret ?_
    by_cases z1 : ((1 ≤ L ∧ L ≤ 100000) ∧ (1 ≤ D ∧ D ≤ 15000) ∧ ((1 ≤ (rs.length : Int) ∧ (rs.length : Int) ≤ 20) ∧ tabB 0 rs = true) ∧ ((ss.length : Int) ≤ 30 ∧ seaB ss = true))
    · by_cases z2 : (1 ≤ zone ∧ zone ≤ 20)
      · by_cases z3 : (0 ≤ d ∧ d ≤ 100000)
        · refine end2 rfl rfl (.inr (.inr (.inr ⟨z1, z2, z3, ?_⟩)))
          first | exact ⟨rfl, rfl⟩ | (exfalso; contradiction) | (exfalso; omega)
        · refine end2 rfl rfl (.inr (.inr (.inl ⟨z1, z2, z3, ?_, rfl⟩)))
          first | rfl | (exfalso; contradiction) | (exfalso; omega)
      · refine end2 rfl rfl (.inr (.inl ⟨z1, z2, ?_, rfl⟩))
        first | rfl | (exfalso; contradiction) | (exfalso; omega)
    · refine end2 rfl rfl (.inl ⟨z1, ?_, rfl⟩)
      first | rfl | (exfalso; contradiction) | (exfalso; omega)
  · refine i_op (a_mov rfl ?_) rfl rfl
    refine i_nil ?_
    refine then_n ?_
    refine r_seq ?_
    refine r_seq ?_
    refine r_items ?_
    refine i_op (a_mov rfl ?_) rfl rfl
    refine i_op (a_neq rfl rfl (fun _ => ?_) (fun h => absurd h (by decide))) rfl rfl
    refine i_nil ?_
    refine then_n ?_
    refine r_cond_t rfl ?_
    refine r_seq ?_
    refine r_items ?_
    refine i_op (a_mov rfl ?_) rfl rfl
    refine i_op (a_mov rfl ?_) rfl rfl
    refine i_op (a_mov rfl ?_) rfl rfl
    refine i_nil ?_
    refine then_n ?_
    refine r_ret ?_
    refine then_r ?_
    by_cases z1 : ((1 ≤ L ∧ L ≤ 100000) ∧ (1 ≤ D ∧ D ≤ 15000) ∧ ((1 ≤ (rs.length : Int) ∧ (rs.length : Int) ≤ 20) ∧ tabB 0 rs = true) ∧ ((ss.length : Int) ≤ 30 ∧ seaB ss = true))
    · by_cases z2 : (1 ≤ zone ∧ zone ≤ 20)
      · by_cases z3 : (0 ≤ d ∧ d ≤ 100000)
        · refine end2 rfl rfl (.inr (.inr (.inr ⟨z1, z2, z3, ?_⟩)))
          first | exact ⟨rfl, rfl⟩ | (exfalso; contradiction) | (exfalso; omega)
        · refine end2 rfl rfl (.inr (.inr (.inl ⟨z1, z2, z3, ?_, rfl⟩)))
          first | rfl | (exfalso; contradiction) | (exfalso; omega)
      · refine end2 rfl rfl (.inr (.inl ⟨z1, z2, ?_, rfl⟩))
        first | rfl | (exfalso; contradiction) | (exfalso; omega)
    · refine end2 rfl rfl (.inl ⟨z1, ?_, rfl⟩)
      first | rfl | (exfalso; contradiction) | (exfalso; omega)
  · refine i_op (a_mov rfl ?_) rfl rfl
    refine i_nil ?_
    refine then_n ?_
    refine r_seq ?_
    refine r_seq ?_
    refine r_items ?_
    refine i_op (a_mov rfl ?_) rfl rfl
    refine i_op (a_neq rfl rfl (fun _ => ?_) (fun h => absurd h (by decide))) rfl rfl
    refine i_nil ?_
    refine then_n ?_
    refine r_cond_t rfl ?_
    refine r_seq ?_
    refine r_items ?_
    refine i_op (a_mov rfl ?_) rfl rfl
    refine i_op (a_mov rfl ?_) rfl rfl
    refine i_op (a_mov rfl ?_) rfl rfl
    refine i_nil ?_
    refine then_n ?_
    refine r_ret ?_
    refine then_r ?_
    by_cases z1 : ((1 ≤ L ∧ L ≤ 100000) ∧ (1 ≤ D ∧ D ≤ 15000) ∧ ((1 ≤ (rs.length : Int) ∧ (rs.length : Int) ≤ 20) ∧ tabB 0 rs = true) ∧ ((ss.length : Int) ≤ 30 ∧ seaB ss = true))
    · by_cases z2 : (1 ≤ zone ∧ zone ≤ 20)
      · by_cases z3 : (0 ≤ d ∧ d ≤ 100000)
        · refine end2 rfl rfl (.inr (.inr (.inr ⟨z1, z2, z3, ?_⟩)))
          first | exact ⟨rfl, rfl⟩ | (exfalso; contradiction) | (exfalso; omega)
        · refine end2 rfl rfl (.inr (.inr (.inl ⟨z1, z2, z3, ?_, rfl⟩)))
          first | rfl | (exfalso; contradiction) | (exfalso; omega)
      · refine end2 rfl rfl (.inr (.inl ⟨z1, z2, ?_, rfl⟩))
        first | rfl | (exfalso; contradiction) | (exfalso; omega)
    · refine end2 rfl rfl (.inl ⟨z1, ?_, rfl⟩)
      first | rfl | (exfalso; contradiction) | (exfalso; omega)
  · refine i_op (a_mov rfl ?_) rfl rfl
    refine i_nil ?_
    refine then_n ?_
    refine r_seq ?_
    refine r_seq ?_
    refine r_items ?_
    refine i_op (a_mov rfl ?_) rfl rfl
    refine i_op (a_neq rfl rfl (fun _ => ?_) (fun h => absurd h (by decide))) rfl rfl
    refine i_nil ?_
    refine then_n ?_
    refine r_cond_t rfl ?_
    refine r_seq ?_
    refine r_items ?_
    refine i_op (a_mov rfl ?_) rfl rfl
    refine i_op (a_mov rfl ?_) rfl rfl
    refine i_op (a_mov rfl ?_) rfl rfl
    refine i_nil ?_
    refine then_n ?_
    refine r_ret ?_
    refine then_r ?_
    by_cases z1 : ((1 ≤ L ∧ L ≤ 100000) ∧ (1 ≤ D ∧ D ≤ 15000) ∧ ((1 ≤ (rs.length : Int) ∧ (rs.length : Int) ≤ 20) ∧ tabB 0 rs = true) ∧ ((ss.length : Int) ≤ 30 ∧ seaB ss = true))
    · by_cases z2 : (1 ≤ zone ∧ zone ≤ 20)
      · by_cases z3 : (0 ≤ d ∧ d ≤ 100000)
        · refine end2 rfl rfl (.inr (.inr (.inr ⟨z1, z2, z3, ?_⟩)))
          first | exact ⟨rfl, rfl⟩ | (exfalso; contradiction) | (exfalso; omega)
        · refine end2 rfl rfl (.inr (.inr (.inl ⟨z1, z2, z3, ?_, rfl⟩)))
          first | rfl | (exfalso; contradiction) | (exfalso; omega)
      · refine end2 rfl rfl (.inr (.inl ⟨z1, z2, ?_, rfl⟩))
        first | rfl | (exfalso; contradiction) | (exfalso; omega)
    · refine end2 rfl rfl (.inl ⟨z1, ?_, rfl⟩)
      first | rfl | (exfalso; contradiction) | (exfalso; omega)

theorem heightWith_s (n : Nat) (L D x : Int) (a c : Option Addr) (cap cap2 : Nat) (rs ss : List (List Int)) (s : St) (hs : Wf s) (hn : 281474976710656 ≤ n) (hR : RowsE s 2 a rs) (hS : RowsE s 4 c ss) (hL : ((1 ≤ L ∧ L ≤ 100000) ∧ (1 ≤ D ∧ D ≤ 15000) ∧ ((1 ≤ (rs.length : Int) ∧ (rs.length : Int) ≤ 20) ∧ tabB 0 rs = true) ∧ ((ss.length : Int) ≤ 30 ∧ seaB ss = true))) (hx : 0 ≤ x ∧ x ≤ 5000) : Spec Tryz.prog (tabK tabm) X (n + 600) 38 [.agg ⟨[.int .i64 L, .int .i64 D, .slice a rs.length cap, .slice c ss.length cap2]⟩, .int .i64 x] s (fun v A => ∃ i, IsFst L rs i ∧ v = .tuple #[.int .i64 (if fbE L rs i = 0 then D - fbV L rs i - x else 0), .int .i64 (fbE L rs i)] ∧ A = []) := by
  refine enter bm38_at rfl hs ?_
  unfold bm38
  have hsea := hL.2.2.2.2
  have htab := hL.2.2.1.2
  have h0 : 0 < rs.length := (by omega)
  have hLL := hL.1
  refine r_seq ?_
  refine r_items ?_
  refine i_op (a_box rfl rfl rfl (fun b1 => ?_)) rfl rfl
  refine i_op (a_mov rfl ?_) rfl rfl
  refine i_op (a_mov rfl ?_) rfl rfl
  refine i_nil ?_
  refine then_n ?_
  refine r_seq ?_
  refine r_items ?_
  refine i_op (a_lda rfl (by decide) .here rfl ?_) rfl rfl
  refine i_op (a_call rfl rfl (fun s1 h1 => freeboard_s _ _ _ _ _ _ _ _ _ s1 h1.wf (by omega) (hR.ext hs h1.2.1) (hS.ext hs h1.2.1) htab h0 (by omega)) (fun v1 A1 q1 => ?_)) rfl rfl
  obtain ⟨i, hfst, rfl, rfl⟩ := q1
  have hbd := fb_bd htab hfst
  · refine i_op (a_mov rfl ?_) rfl rfl
    refine i_op (a_ext rfl rfl ?_) rfl rfl
    refine i_op (a_ext rfl rfl ?_) rfl rfl
    refine i_op (a_mov rfl ?_) rfl rfl
    refine i_op (a_mov rfl ?_) rfl rfl
    refine i_nil ?_
    refine then_n ?_
    refine r_seq ?_
    refine r_seq ?_
    refine r_items ?_
    refine i_op (a_mov rfl ?_) rfl rfl
    refine i_op (a_neq rfl rfl (fun h2 => ?_) (fun h2 => ?_)) rfl rfl
    · refine i_nil ?_
      refine then_n ?_
      refine r_cond_t rfl ?_
      refine r_seq ?_
      refine r_items ?_
      refine i_op (a_mov rfl ?_) rfl rfl
      refine i_op (a_mov rfl ?_) rfl rfl
      refine i_op (a_mov rfl ?_) rfl rfl
      refine i_nil ?_
      refine then_n ?_
      refine r_ret ?_
      refine then_r ?_
      refine end2 rfl rfl ⟨i, hfst, ?_, rfl⟩
      first
        | (rw [if_pos (by assumption)]; first | done | (congr 3; omega) | (have h9 : fbE L rs i = 0 := (by assumption); rw [h9]))
        | (rw [if_neg (by assumption)])
    · refine i_nil ?_
      refine then_n ?_
      refine r_cond_f rfl ?_
      refine r_skip ?_
      refine then_n ?_
      refine r_seq ?_
      refine r_items ?_
      refine i_op (a_fa rfl ?_) rfl rfl
      refine i_op (a_ld rfl .here rfl ?_) rfl rfl
      refine i_op (a_mov rfl ?_) rfl rfl
      refine i_op (a_sub rfl rfl (by omega) ?_) rfl rfl
      refine i_op (a_mov rfl ?_) rfl rfl
      refine i_op (a_sub rfl rfl (by omega) ?_) rfl rfl
      refine i_op (a_mov rfl ?_) rfl rfl
      refine i_op (a_mov rfl ?_) rfl rfl
      refine i_nil ?_
      refine then_n ?_
      refine r_ret ?_
      refine end2 rfl rfl ⟨i, hfst, ?_, rfl⟩
      first
        | (rw [if_pos (by assumption)]; first | done | (congr 3; omega) | (have h9 : fbE L rs i = 0 := (by assumption); rw [h9]))
        | (rw [if_neg (by assumption)])

theorem Height_s (n : Nat) (L D : Int) (a c : Option Addr) (cap cap2 : Nat) (rs ss : List (List Int)) (zone d : Int) (s : St) (hs : Wf s) (hn : 281474976710656 ≤ n) (hR : RowsE s 2 a rs) (hS : RowsE s 4 c ss) : Spec Tryz.prog (tabK tabm) X (n + 900) 15 [.agg ⟨[.int .i64 L, .int .i64 D, .slice a rs.length cap, .slice c ss.length cap2]⟩, .int .i64 zone, .int .i64 d] s (fun v A => (¬ ((1 ≤ L ∧ L ≤ 100000) ∧ (1 ≤ D ∧ D ≤ 15000) ∧ ((1 ≤ (rs.length : Int) ∧ (rs.length : Int) ≤ 20) ∧ tabB 0 rs = true) ∧ ((ss.length : Int) ≤ 30 ∧ seaB ss = true)) ∧ v = .tuple #[.int .i64 0, .int .i64 60] ∧ A = []) ∨ (((1 ≤ L ∧ L ≤ 100000) ∧ (1 ≤ D ∧ D ≤ 15000) ∧ ((1 ≤ (rs.length : Int) ∧ (rs.length : Int) ≤ 20) ∧ tabB 0 rs = true) ∧ ((ss.length : Int) ≤ 30 ∧ seaB ss = true)) ∧ ¬ (1 ≤ zone ∧ zone ≤ 20) ∧ v = .tuple #[.int .i64 0, .int .i64 65] ∧ A = []) ∨ (((1 ≤ L ∧ L ≤ 100000) ∧ (1 ≤ D ∧ D ≤ 15000) ∧ ((1 ≤ (rs.length : Int) ∧ (rs.length : Int) ≤ 20) ∧ tabB 0 rs = true) ∧ ((ss.length : Int) ≤ 30 ∧ seaB ss = true)) ∧ (1 ≤ zone ∧ zone ≤ 20) ∧ ¬ (0 ≤ d ∧ d ≤ 100000) ∧ v = .tuple #[.int .i64 0, .int .i64 6] ∧ A = []) ∨ (((1 ≤ L ∧ L ≤ 100000) ∧ (1 ≤ D ∧ D ≤ 15000) ∧ ((1 ≤ (rs.length : Int) ∧ (rs.length : Int) ≤ 20) ∧ tabB 0 rs = true) ∧ ((ss.length : Int) ≤ 30 ∧ seaB ss = true)) ∧ (1 ≤ zone ∧ zone ≤ 20) ∧ (0 ≤ d ∧ d ≤ 100000) ∧ ∃ i, IsFst L rs i ∧ v = .tuple #[.int .i64 (if fbE L rs i = 0 then D - fbV L rs i - extV zone d 0 ss else 0), .int .i64 (fbE L rs i)] ∧ A = [])) := by
  refine enter bm15_at rfl hs ?_
  unfold bm15
  refine r_seq ?_
  refine r_items ?_
  refine i_op (a_box rfl rfl rfl (fun b1 => ?_)) rfl rfl
  refine i_op (a_mov rfl ?_) rfl rfl
  refine i_op (a_mov rfl ?_) rfl rfl
  refine i_nil ?_
  refine then_n ?_
  refine r_seq ?_
  refine r_seq ?_
  refine r_items ?_
  refine i_op (a_lda rfl (by decide) .here rfl ?_) rfl rfl
  refine i_op (a_callE rfl rfl (fun s1 h1 => CheckLines_s _ _ _ _ _ _ _ _ _ s1 h1.wf (by omega) (hR.ext hs h1.2.1) (hS.ext hs h1.2.1)) (fun h2 => ?_) (fun h2 => ?_)) rfl rfl
  · have hL := h2
    have hsea := hL.2.2.2.2
    have htab := hL.2.2.1.2
    have h0 : 0 < rs.length := (by omega)
    have hLL := hL.1
    refine i_op (a_mov rfl ?_) rfl rfl
    refine i_op (a_mov rfl ?_) rfl rfl
    refine i_op (a_call rfl rfl (fun s1 h1 => checkWhen_s _ _ _ s1 h1.wf) (fun v1 A1 q1 => ?_)) rfl rfl
    rcases q1 with ⟨⟨hz, hd, rfl⟩ | ⟨hz, rfl⟩ | ⟨hz, hd, rfl⟩, rfl⟩
    · refine i_op (a_lit rfl rfl rfl (fun b3 => ?_)) rfl rfl
      refine i_op (a_callV rfl rfl (fun s1 h1 => or2_s _ _ _ _ _ _ s1 h1.wf ((h1.own .here).at rfl) ((h1.own .here).at rfl)) ?_) rfl rfl
      refine i_op (a_mov rfl ?_) rfl rfl
      refine i_nil ?_
      refine then_n ?_
      refine r_seq ?_
      refine r_items ?_
      refine i_op (a_mov rfl ?_) rfl rfl
      refine i_op (a_neq rfl rfl (fun h => absurd h (by decide)) (fun _ => ?_)) rfl rfl
      refine i_nil ?_
      refine then_n ?_
      refine r_cond_f rfl ?_
      refine r_skip ?_
      refine then_n ?_
      refine r_seq ?_
      refine r_items ?_
      refine i_op (a_lda rfl (by decide) (.next .here) rfl ?_) rfl rfl
      refine i_op (a_lda rfl (by decide) (.next .here) rfl ?_) rfl rfl
      refine i_op (a_mov rfl ?_) rfl rfl
      refine i_op (a_mov rfl ?_) rfl rfl
      refine i_op (a_callV rfl rfl (fun s1 h1 => extraOn_s _ _ _ _ _ _ _ _ _ _ _ s1 h1.wf (by omega) (hR.ext hs h1.2.1) (hS.ext hs h1.2.1) (by assumption) (by omega)) ?_) rfl rfl
      refine i_opn (a_againa rfl rfl (by decide) (.next .here) rfl (by simp [eqL, eqV, eqA, kindEq, intEq_eq, eqV_sl hR.spot, eqV_sl hS.spot]) ?_) rfl
      refine i_op (a_call rfl rfl (fun s1 h1 => heightWith_s _ _ _ _ _ _ _ _ _ _ s1 h1.wf (by omega) (hR.ext hs h1.2.1) (hS.ext hs h1.2.1) hL (ext_bd hsea)) (fun v1 A1 q1 => ?_)) rfl rfl
      obtain ⟨i, hfst, rfl, rfl⟩ := q1
      have hbd := fb_bd htab hfst
      · refine i_op (a_ext rfl rfl ?_) rfl rfl
        refine i_op (a_ext rfl rfl ?_) rfl rfl
        refine i_op (a_mov rfl ?_) rfl rfl
        refine i_op (a_mov rfl ?_) rfl rfl
        refine i_nil ?_
        refine then_n ?_
        refine r_ret ?_
        by_cases z1 : ((1 ≤ L ∧ L ≤ 100000) ∧ (1 ≤ D ∧ D ≤ 15000) ∧ ((1 ≤ (rs.length : Int) ∧ (rs.length : Int) ≤ 20) ∧ tabB 0 rs = true) ∧ ((ss.length : Int) ≤ 30 ∧ seaB ss = true))
        · by_cases z2 : (1 ≤ zone ∧ zone ≤ 20)
          · by_cases z3 : (0 ≤ d ∧ d ≤ 100000)
            · refine end2 rfl rfl (.inr (.inr (.inr ⟨z1, z2, z3, ?_⟩)))
              first | exact ⟨i, hfst, rfl, rfl⟩ | (refine ⟨i, hfst, ?_, rfl⟩; have h9 : fbE L rs i = 0 := (by assumption); rw [if_pos h9, h9]; done) | (refine ⟨i, hfst, ?_, rfl⟩; have h9 : ¬ fbE L rs i = 0 := (by assumption); rw [if_neg h9]; done) | (exfalso; contradiction) | (exfalso; omega)
            · refine end2 rfl rfl (.inr (.inr (.inl ⟨z1, z2, z3, ?_, rfl⟩)))
              first | rfl | (exfalso; contradiction) | (exfalso; omega)
          · refine end2 rfl rfl (.inr (.inl ⟨z1, z2, ?_, rfl⟩))
            first | rfl | (exfalso; contradiction) | (exfalso; omega)
        · refine end2 rfl rfl (.inl ⟨z1, ?_, rfl⟩)
          first | rfl | (exfalso; contradiction) | (exfalso; omega)
    · refine i_op (a_lit rfl rfl rfl (fun b5 => ?_)) rfl rfl
      refine i_op (a_callV rfl rfl (fun s1 h1 => or2_s _ _ _ _ _ _ s1 h1.wf ((h1.own .here).at rfl) ((h1.own .here).at rfl)) ?_) rfl rfl
      refine i_op (a_mov rfl ?_) rfl rfl
      refine i_nil ?_
      refine then_n ?_
      refine r_seq ?_
      refine r_items ?_
      refine i_op (a_mov rfl ?_) rfl rfl
      refine i_op (a_neq rfl rfl (fun _ => ?_) (fun h => absurd h (by decide))) rfl rfl
      refine i_nil ?_
      refine then_n ?_
      refine r_cond_t rfl ?_
      refine r_seq ?_
      refine r_items ?_
      refine i_op (a_mov rfl ?_) rfl rfl
      refine i_op (a_mov rfl ?_) rfl rfl
      refine i_op (a_mov rfl ?_) rfl rfl
      refine i_nil ?_
      refine then_n ?_
      refine r_ret ?_
      refine then_r ?_
      by_cases z1 : ((1 ≤ L ∧ L ≤ 100000) ∧ (1 ≤ D ∧ D ≤ 15000) ∧ ((1 ≤ (rs.length : Int) ∧ (rs.length : Int) ≤ 20) ∧ tabB 0 rs = true) ∧ ((ss.length : Int) ≤ 30 ∧ seaB ss = true))
      · by_cases z2 : (1 ≤ zone ∧ zone ≤ 20)
        · by_cases z3 : (0 ≤ d ∧ d ≤ 100000)
          · refine end2 rfl rfl (.inr (.inr (.inr ⟨z1, z2, z3, ?_⟩)))
            first | exact ⟨i, hfst, rfl, rfl⟩ | (refine ⟨i, hfst, ?_, rfl⟩; have h9 : fbE L rs i = 0 := (by assumption); rw [if_pos h9, h9]; done) | (refine ⟨i, hfst, ?_, rfl⟩; have h9 : ¬ fbE L rs i = 0 := (by assumption); rw [if_neg h9]; done) | (exfalso; contradiction) | (exfalso; omega)
          · refine end2 rfl rfl (.inr (.inr (.inl ⟨z1, z2, z3, ?_, rfl⟩)))
            first | rfl | (exfalso; contradiction) | (exfalso; omega)
        · refine end2 rfl rfl (.inr (.inl ⟨z1, z2, ?_, rfl⟩))
          first | rfl | (exfalso; contradiction) | (exfalso; omega)
      · refine end2 rfl rfl (.inl ⟨z1, ?_, rfl⟩)
        first | rfl | (exfalso; contradiction) | (exfalso; omega)
    · refine i_op (a_lit rfl rfl rfl (fun b7 => ?_)) rfl rfl
      refine i_op (a_callV rfl rfl (fun s1 h1 => or2_s _ _ _ _ _ _ s1 h1.wf ((h1.own .here).at rfl) ((h1.own .here).at rfl)) ?_) rfl rfl
      refine i_op (a_mov rfl ?_) rfl rfl
      refine i_nil ?_
      refine then_n ?_
      refine r_seq ?_
      refine r_items ?_
      refine i_op (a_mov rfl ?_) rfl rfl
      refine i_op (a_neq rfl rfl (fun _ => ?_) (fun h => absurd h (by decide))) rfl rfl
      refine i_nil ?_
      refine then_n ?_
      refine r_cond_t rfl ?_
      refine r_seq ?_
      refine r_items ?_
      refine i_op (a_mov rfl ?_) rfl rfl
      refine i_op (a_mov rfl ?_) rfl rfl
      refine i_op (a_mov rfl ?_) rfl rfl
      refine i_nil ?_
      refine then_n ?_
      refine r_ret ?_
      refine then_r ?_
      by_cases z1 : ((1 ≤ L ∧ L ≤ 100000) ∧ (1 ≤ D ∧ D ≤ 15000) ∧ ((1 ≤ (rs.length : Int) ∧ (rs.length : Int) ≤ 20) ∧ tabB 0 rs = true) ∧ ((ss.length : Int) ≤ 30 ∧ seaB ss = true))
      · by_cases z2 : (1 ≤ zone ∧ zone ≤ 20)
        · by_cases z3 : (0 ≤ d ∧ d ≤ 100000)
          · refine end2 rfl rfl (.inr (.inr (.inr ⟨z1, z2, z3, ?_⟩)))
            first | exact ⟨i, hfst, rfl, rfl⟩ | (refine ⟨i, hfst, ?_, rfl⟩; have h9 : fbE L rs i = 0 := (by assumption); rw [if_pos h9, h9]; done) | (refine ⟨i, hfst, ?_, rfl⟩; have h9 : ¬ fbE L rs i = 0 := (by assumption); rw [if_neg h9]; done) | (exfalso; contradiction) | (exfalso; omega)
          · refine end2 rfl rfl (.inr (.inr (.inl ⟨z1, z2, z3, ?_, rfl⟩)))
            first | rfl | (exfalso; contradiction) | (exfalso; omega)
        · refine end2 rfl rfl (.inr (.inl ⟨z1, z2, ?_, rfl⟩))
          first | rfl | (exfalso; contradiction) | (exfalso; omega)
      · refine end2 rfl rfl (.inl ⟨z1, ?_, rfl⟩)
        first | rfl | (exfalso; contradiction) | (exfalso; omega)
  · refine i_op (a_mov rfl ?_) rfl rfl
    refine i_op (a_mov rfl ?_) rfl rfl
    refine i_op (a_call rfl rfl (fun s1 h1 => checkWhen_s _ _ _ s1 h1.wf) (fun v1 A1 q1 => ?_)) rfl rfl
    rcases q1 with ⟨⟨hz, hd, rfl⟩ | ⟨hz, rfl⟩ | ⟨hz, hd, rfl⟩, rfl⟩
    · refine i_op (a_lit rfl rfl rfl (fun b9 => ?_)) rfl rfl
      refine i_op (a_callV rfl rfl (fun s1 h1 => or2_s _ _ _ _ _ _ s1 h1.wf ((h1.own .here).at rfl) ((h1.own .here).at rfl)) ?_) rfl rfl
      refine i_op (a_mov rfl ?_) rfl rfl
      refine i_nil ?_
      refine then_n ?_
      refine r_seq ?_
      refine r_items ?_
      refine i_op (a_mov rfl ?_) rfl rfl
      refine i_op (a_neq rfl rfl (fun _ => ?_) (fun h => absurd h (by decide))) rfl rfl
      refine i_nil ?_
      refine then_n ?_
      refine r_cond_t rfl ?_
      refine r_seq ?_
      refine r_items ?_
      refine i_op (a_mov rfl ?_) rfl rfl
      refine i_op (a_mov rfl ?_) rfl rfl
      refine i_op (a_mov rfl ?_) rfl rfl
      refine i_nil ?_
      refine then_n ?_
      refine r_ret ?_
      refine then_r ?_
      by_cases z1 : ((1 ≤ L ∧ L ≤ 100000) ∧ (1 ≤ D ∧ D ≤ 15000) ∧ ((1 ≤ (rs.length : Int) ∧ (rs.length : Int) ≤ 20) ∧ tabB 0 rs = true) ∧ ((ss.length : Int) ≤ 30 ∧ seaB ss = true))
      · by_cases z2 : (1 ≤ zone ∧ zone ≤ 20)
        · by_cases z3 : (0 ≤ d ∧ d ≤ 100000)
          · refine end2 rfl rfl (.inr (.inr (.inr ⟨z1, z2, z3, ?_⟩)))
            first | exact ⟨i, hfst, rfl, rfl⟩ | (refine ⟨i, hfst, ?_, rfl⟩; have h9 : fbE L rs i = 0 := (by assumption); rw [if_pos h9, h9]; done) | (refine ⟨i, hfst, ?_, rfl⟩; have h9 : ¬ fbE L rs i = 0 := (by assumption); rw [if_neg h9]; done) | (exfalso; contradiction) | (exfalso; omega)
          · refine end2 rfl rfl (.inr (.inr (.inl ⟨z1, z2, z3, ?_, rfl⟩)))
            first | rfl | (exfalso; contradiction) | (exfalso; omega)
        · refine end2 rfl rfl (.inr (.inl ⟨z1, z2, ?_, rfl⟩))
          first | rfl | (exfalso; contradiction) | (exfalso; omega)
      · refine end2 rfl rfl (.inl ⟨z1, ?_, rfl⟩)
        first | rfl | (exfalso; contradiction) | (exfalso; omega)
    · refine i_op (a_lit rfl rfl rfl (fun b11 => ?_)) rfl rfl
      refine i_op (a_callV rfl rfl (fun s1 h1 => or2_s _ _ _ _ _ _ s1 h1.wf ((h1.own .here).at rfl) ((h1.own .here).at rfl)) ?_) rfl rfl
      refine i_op (a_mov rfl ?_) rfl rfl
      refine i_nil ?_
      refine then_n ?_
      refine r_seq ?_
      refine r_items ?_
      refine i_op (a_mov rfl ?_) rfl rfl
      refine i_op (a_neq rfl rfl (fun _ => ?_) (fun h => absurd h (by decide))) rfl rfl
      refine i_nil ?_
      refine then_n ?_
      refine r_cond_t rfl ?_
      refine r_seq ?_
      refine r_items ?_
      refine i_op (a_mov rfl ?_) rfl rfl
      refine i_op (a_mov rfl ?_) rfl rfl
      refine i_op (a_mov rfl ?_) rfl rfl
      refine i_nil ?_
      refine then_n ?_
      refine r_ret ?_
      refine then_r ?_
      by_cases z1 : ((1 ≤ L ∧ L ≤ 100000) ∧ (1 ≤ D ∧ D ≤ 15000) ∧ ((1 ≤ (rs.length : Int) ∧ (rs.length : Int) ≤ 20) ∧ tabB 0 rs = true) ∧ ((ss.length : Int) ≤ 30 ∧ seaB ss = true))
      · by_cases z2 : (1 ≤ zone ∧ zone ≤ 20)
        · by_cases z3 : (0 ≤ d ∧ d ≤ 100000)
          · refine end2 rfl rfl (.inr (.inr (.inr ⟨z1, z2, z3, ?_⟩)))
            first | exact ⟨i, hfst, rfl, rfl⟩ | (refine ⟨i, hfst, ?_, rfl⟩; have h9 : fbE L rs i = 0 := (by assumption); rw [if_pos h9, h9]; done) | (refine ⟨i, hfst, ?_, rfl⟩; have h9 : ¬ fbE L rs i = 0 := (by assumption); rw [if_neg h9]; done) | (exfalso; contradiction) | (exfalso; omega)
          · refine end2 rfl rfl (.inr (.inr (.inl ⟨z1, z2, z3, ?_, rfl⟩)))
            first | rfl | (exfalso; contradiction) | (exfalso; omega)
        · refine end2 rfl rfl (.inr (.inl ⟨z1, z2, ?_, rfl⟩))
          first | rfl | (exfalso; contradiction) | (exfalso; omega)
      · refine end2 rfl rfl (.inl ⟨z1, ?_, rfl⟩)
        first | rfl | (exfalso; contradiction) | (exfalso; omega)
    · refine i_op (a_lit rfl rfl rfl (fun b13 => ?_)) rfl rfl
      refine i_op (a_callV rfl rfl (fun s1 h1 => or2_s _ _ _ _ _ _ s1 h1.wf ((h1.own .here).at rfl) ((h1.own .here).at rfl)) ?_) rfl rfl
      refine i_op (a_mov rfl ?_) rfl rfl
      refine i_nil ?_
      refine then_n ?_
      refine r_seq ?_
      refine r_items ?_
      refine i_op (a_mov rfl ?_) rfl rfl
      refine i_op (a_neq rfl rfl (fun _ => ?_) (fun h => absurd h (by decide))) rfl rfl
      refine i_nil ?_
      refine then_n ?_
      refine r_cond_t rfl ?_
      refine r_seq ?_
      refine r_items ?_
      refine i_op (a_mov rfl ?_) rfl rfl
      refine i_op (a_mov rfl ?_) rfl rfl
      refine i_op (a_mov rfl ?_) rfl rfl
      refine i_nil ?_
      refine then_n ?_
      refine r_ret ?_
      refine then_r ?_
      by_cases z1 : ((1 ≤ L ∧ L ≤ 100000) ∧ (1 ≤ D ∧ D ≤ 15000) ∧ ((1 ≤ (rs.length : Int) ∧ (rs.length : Int) ≤ 20) ∧ tabB 0 rs = true) ∧ ((ss.length : Int) ≤ 30 ∧ seaB ss = true))
      · by_cases z2 : (1 ≤ zone ∧ zone ≤ 20)
        · by_cases z3 : (0 ≤ d ∧ d ≤ 100000)
          · refine end2 rfl rfl (.inr (.inr (.inr ⟨z1, z2, z3, ?_⟩)))
            first | exact ⟨i, hfst, rfl, rfl⟩ | (refine ⟨i, hfst, ?_, rfl⟩; have h9 : fbE L rs i = 0 := (by assumption); rw [if_pos h9, h9]; done) | (refine ⟨i, hfst, ?_, rfl⟩; have h9 : ¬ fbE L rs i = 0 := (by assumption); rw [if_neg h9]; done) | (exfalso; contradiction) | (exfalso; omega)
          · refine end2 rfl rfl (.inr (.inr (.inl ⟨z1, z2, z3, ?_, rfl⟩)))
            first | rfl | (exfalso; contradiction) | (exfalso; omega)
        · refine end2 rfl rfl (.inr (.inl ⟨z1, z2, ?_, rfl⟩))
          first | rfl | (exfalso; contradiction) | (exfalso; omega)
      · refine end2 rfl rfl (.inl ⟨z1, ?_, rfl⟩)
        first | rfl | (exfalso; contradiction) | (exfalso; omega)

theorem rHeight_s (n : Nat) (L D : Int) (a c : Option Addr) (cap cap2 : Nat) (rs ss : List (List Int)) (zone d : Int) (s : St) (hs : Wf s) (hn : 281474976710656 ≤ n) (hR : RowsE s 2 a rs) (hS : RowsE s 4 c ss) : Spec Tryz.prog (tabK tabm) X (n + 900) 16 [.agg ⟨[.int .i64 L, .int .i64 D, .slice a rs.length cap, .slice c ss.length cap2]⟩, .int .i64 zone, .int .i64 d] s (fun v A => (¬ ((1 ≤ L ∧ L ≤ 100000) ∧ (1 ≤ D ∧ D ≤ 15000) ∧ ((1 ≤ (rs.length : Int) ∧ (rs.length : Int) ≤ 20) ∧ tabB 0 rs = true) ∧ ((ss.length : Int) ≤ 30 ∧ seaB ss = true)) ∧ v = .tuple #[.int .i64 0, .int .i64 60] ∧ A = []) ∨ (((1 ≤ L ∧ L ≤ 100000) ∧ (1 ≤ D ∧ D ≤ 15000) ∧ ((1 ≤ (rs.length : Int) ∧ (rs.length : Int) ≤ 20) ∧ tabB 0 rs = true) ∧ ((ss.length : Int) ≤ 30 ∧ seaB ss = true)) ∧ ¬ (1 ≤ zone ∧ zone ≤ 20) ∧ v = .tuple #[.int .i64 0, .int .i64 65] ∧ A = []) ∨ (((1 ≤ L ∧ L ≤ 100000) ∧ (1 ≤ D ∧ D ≤ 15000) ∧ ((1 ≤ (rs.length : Int) ∧ (rs.length : Int) ≤ 20) ∧ tabB 0 rs = true) ∧ ((ss.length : Int) ≤ 30 ∧ seaB ss = true)) ∧ (1 ≤ zone ∧ zone ≤ 20) ∧ ¬ (0 ≤ d ∧ d ≤ 100000) ∧ v = .tuple #[.int .i64 0, .int .i64 6] ∧ A = []) ∨ (((1 ≤ L ∧ L ≤ 100000) ∧ (1 ≤ D ∧ D ≤ 15000) ∧ ((1 ≤ (rs.length : Int) ∧ (rs.length : Int) ≤ 20) ∧ tabB 0 rs = true) ∧ ((ss.length : Int) ≤ 30 ∧ seaB ss = true)) ∧ (1 ≤ zone ∧ zone ≤ 20) ∧ (0 ≤ d ∧ d ≤ 100000) ∧ ∃ i, IsFst L rs i ∧ v = .tuple #[.int .i64 (if fbE L rs i = 0 then D - fbV L rs i - extV zone d 0 ss else 0), .int .i64 (fbE L rs i)] ∧ A = [])) := by
  refine enter bm16_at rfl hs ?_
  unfold bm16
  refine r_seq ?_
  refine r_items ?_
  refine i_op (a_box rfl rfl rfl (fun b1 => ?_)) rfl rfl
  refine i_op (a_mov rfl ?_) rfl rfl
  refine i_op (a_mov rfl ?_) rfl rfl
  refine i_nil ?_
  refine then_n ?_
  refine r_seq ?_
  refine r_items ?_
  refine i_op (a_lda rfl (by decide) .here rfl ?_) rfl rfl
  refine i_op (a_mov rfl ?_) rfl rfl
  refine i_op (a_mov rfl ?_) rfl rfl
  refine i_op (a_call rfl rfl (fun s1 h1 => rchecked_s _ _ _ _ _ _ _ _ _ _ _ s1 h1.wf (by omega) (hR.ext hs h1.2.1) (hS.ext hs h1.2.1)) (fun v1 A1 q1 => ?_)) rfl rfl
  rcases q1 with ⟨⟨hL, hz, hd, rfl⟩ | ⟨hL, rfl⟩ | ⟨hL, hz, rfl⟩ | ⟨hL, hz, hd, rfl⟩, rfl⟩
  · have hsea := hL.2.2.2.2
    have htab := hL.2.2.1.2
    have h0 : 0 < rs.length := (by omega)
    have hLL := hL.1
    refine i_op (a_mov rfl ?_) rfl rfl
    refine i_nil ?_
    refine then_n ?_
    refine r_seq ?_
    refine r_seq ?_
    refine r_items ?_
    refine i_op (a_mov rfl ?_) rfl rfl
    refine i_op (a_neq rfl rfl (fun h => absurd h (by decide)) (fun _ => ?_)) rfl rfl
    refine i_nil ?_
    refine then_n ?_
    refine r_cond_f rfl ?_
    refine r_skip ?_
    refine then_n ?_
    refine r_seq ?_
    refine r_items ?_
    refine i_op (a_lda rfl (by decide) .here rfl ?_) rfl rfl
    refine i_op (a_call rfl rfl (fun s1 h1 => rfreeboard_s _ _ _ _ _ _ _ _ _ s1 h1.wf (by omega) (hR.ext hs h1.2.1) (hS.ext hs h1.2.1) htab h0 (by omega)) (fun v1 A1 q1 => ?_)) rfl rfl
    obtain ⟨i, hfst, rfl, rfl⟩ := q1
    have hbd := fb_bd htab hfst
    · refine i_op (a_mov rfl ?_) rfl rfl
      refine i_op (a_ext rfl rfl ?_) rfl rfl
      refine i_op (a_ext rfl rfl ?_) rfl rfl
      refine i_op (a_mov rfl ?_) rfl rfl
      refine i_op (a_mov rfl ?_) rfl rfl
      refine i_nil ?_
      refine then_n ?_
      refine r_seq ?_
      refine r_seq ?_
      refine r_items ?_
      refine i_op (a_mov rfl ?_) rfl rfl
      refine i_op (a_neq rfl rfl (fun h3 => ?_) (fun h3 => ?_)) rfl rfl
      · refine i_nil ?_
        refine then_n ?_
        refine r_cond_t rfl ?_
        refine r_seq ?_
        refine r_items ?_
        refine i_op (a_mov rfl ?_) rfl rfl
        refine i_op (a_mov rfl ?_) rfl rfl
        refine i_op (a_mov rfl ?_) rfl rfl
        refine i_nil ?_
        refine then_n ?_
        refine r_ret ?_
        refine then_r ?_
        by_cases z1 : ((1 ≤ L ∧ L ≤ 100000) ∧ (1 ≤ D ∧ D ≤ 15000) ∧ ((1 ≤ (rs.length : Int) ∧ (rs.length : Int) ≤ 20) ∧ tabB 0 rs = true) ∧ ((ss.length : Int) ≤ 30 ∧ seaB ss = true))
        · by_cases z2 : (1 ≤ zone ∧ zone ≤ 20)
          · by_cases z3 : (0 ≤ d ∧ d ≤ 100000)
            · refine end2 rfl rfl (.inr (.inr (.inr ⟨z1, z2, z3, ?_⟩)))
              first | exact ⟨i, hfst, rfl, rfl⟩ | (refine ⟨i, hfst, ?_, rfl⟩; have h9 : fbE L rs i = 0 := (by assumption); rw [if_pos h9, h9]; done) | (refine ⟨i, hfst, ?_, rfl⟩; have h9 : ¬ fbE L rs i = 0 := (by assumption); rw [if_neg h9]; done) | (exfalso; contradiction) | (exfalso; omega)
            · refine end2 rfl rfl (.inr (.inr (.inl ⟨z1, z2, z3, ?_, rfl⟩)))
              first | rfl | (exfalso; contradiction) | (exfalso; omega)
          · refine end2 rfl rfl (.inr (.inl ⟨z1, z2, ?_, rfl⟩))
            first | rfl | (exfalso; contradiction) | (exfalso; omega)
        · refine end2 rfl rfl (.inl ⟨z1, ?_, rfl⟩)
          first | rfl | (exfalso; contradiction) | (exfalso; omega)
      · refine i_nil ?_
        refine then_n ?_
        refine r_cond_f rfl ?_
        refine r_skip ?_
        refine then_n ?_
        refine r_seq ?_
        refine r_items ?_
        refine i_op (a_fa rfl ?_) rfl rfl
        refine i_op (a_ld rfl .here rfl ?_) rfl rfl
        refine i_op (a_mov rfl ?_) rfl rfl
        have hxb := ext_bd (zone := zone) (d := d) hsea
        refine i_op (a_sub rfl rfl (by omega) ?_) rfl rfl
        refine i_op (a_lda rfl (by decide) .here rfl ?_) rfl rfl
        refine i_op (a_mov rfl ?_) rfl rfl
        refine i_op (a_mov rfl ?_) rfl rfl
        refine i_op (a_callV rfl rfl (fun s1 h1 => rextra_s _ _ _ _ _ _ _ _ _ _ _ s1 h1.wf (by omega) (hR.ext hs h1.2.1) (hS.ext hs h1.2.1) (by assumption) (by omega)) ?_) rfl rfl
        refine i_opn (a_again rfl rfl .here rfl (by simp [eqV, eqA, eqL, kindEq, intEq_eq]) ?_) rfl
        refine i_op (a_sub rfl rfl (by omega) ?_) rfl rfl
        refine i_op (a_mov rfl ?_) rfl rfl
        refine i_op (a_mov rfl ?_) rfl rfl
        refine i_nil ?_
        refine then_n ?_
        refine r_ret ?_
        by_cases z1 : ((1 ≤ L ∧ L ≤ 100000) ∧ (1 ≤ D ∧ D ≤ 15000) ∧ ((1 ≤ (rs.length : Int) ∧ (rs.length : Int) ≤ 20) ∧ tabB 0 rs = true) ∧ ((ss.length : Int) ≤ 30 ∧ seaB ss = true))
        · by_cases z2 : (1 ≤ zone ∧ zone ≤ 20)
          · by_cases z3 : (0 ≤ d ∧ d ≤ 100000)
            · refine end2 rfl rfl (.inr (.inr (.inr ⟨z1, z2, z3, ?_⟩)))
              first | exact ⟨i, hfst, rfl, rfl⟩ | (refine ⟨i, hfst, ?_, rfl⟩; have h9 : fbE L rs i = 0 := (by assumption); rw [if_pos h9, h9]; done) | (refine ⟨i, hfst, ?_, rfl⟩; have h9 : ¬ fbE L rs i = 0 := (by assumption); rw [if_neg h9]; done) | (exfalso; contradiction) | (exfalso; omega)
            · refine end2 rfl rfl (.inr (.inr (.inl ⟨z1, z2, z3, ?_, rfl⟩)))
              first | rfl | (exfalso; contradiction) | (exfalso; omega)
          · refine end2 rfl rfl (.inr (.inl ⟨z1, z2, ?_, rfl⟩))
            first | rfl | (exfalso; contradiction) | (exfalso; omega)
        · refine end2 rfl rfl (.inl ⟨z1, ?_, rfl⟩)
          first | rfl | (exfalso; contradiction) | (exfalso; omega)
  · refine i_op (a_mov rfl ?_) rfl rfl
    refine i_nil ?_
    refine then_n ?_
    refine r_seq ?_
    refine r_seq ?_
    refine r_items ?_
    refine i_op (a_mov rfl ?_) rfl rfl
    refine i_op (a_neq rfl rfl (fun _ => ?_) (fun h => absurd h (by decide))) rfl rfl
    refine i_nil ?_
    refine then_n ?_
    refine r_cond_t rfl ?_
    refine r_seq ?_
    refine r_items ?_
    refine i_op (a_mov rfl ?_) rfl rfl
    refine i_op (a_mov rfl ?_) rfl rfl
    refine i_op (a_mov rfl ?_) rfl rfl
    refine i_nil ?_
    refine then_n ?_
    refine r_ret ?_
    refine then_r ?_
    by_cases z1 : ((1 ≤ L ∧ L ≤ 100000) ∧ (1 ≤ D ∧ D ≤ 15000) ∧ ((1 ≤ (rs.length : Int) ∧ (rs.length : Int) ≤ 20) ∧ tabB 0 rs = true) ∧ ((ss.length : Int) ≤ 30 ∧ seaB ss = true))
    · by_cases z2 : (1 ≤ zone ∧ zone ≤ 20)
      · by_cases z3 : (0 ≤ d ∧ d ≤ 100000)
        · refine end2 rfl rfl (.inr (.inr (.inr ⟨z1, z2, z3, ?_⟩)))
          first | exact ⟨i, hfst, rfl, rfl⟩ | (refine ⟨i, hfst, ?_, rfl⟩; have h9 : fbE L rs i = 0 := (by assumption); rw [if_pos h9, h9]; done) | (refine ⟨i, hfst, ?_, rfl⟩; have h9 : ¬ fbE L rs i = 0 := (by assumption); rw [if_neg h9]; done) | (exfalso; contradiction) | (exfalso; omega)
        · refine end2 rfl rfl (.inr (.inr (.inl ⟨z1, z2, z3, ?_, rfl⟩)))
          first | rfl | (exfalso; contradiction) | (exfalso; omega)
      · refine end2 rfl rfl (.inr (.inl ⟨z1, z2, ?_, rfl⟩))
        first | rfl | (exfalso; contradiction) | (exfalso; omega)
    · refine end2 rfl rfl (.inl ⟨z1, ?_, rfl⟩)
      first | rfl | (exfalso; contradiction) | (exfalso; omega)
  · refine i_op (a_mov rfl ?_) rfl rfl
    refine i_nil ?_
    refine then_n ?_
    refine r_seq ?_
    refine r_seq ?_
    refine r_items ?_
    refine i_op (a_mov rfl ?_) rfl rfl
    refine i_op (a_neq rfl rfl (fun _ => ?_) (fun h => absurd h (by decide))) rfl rfl
    refine i_nil ?_
    refine then_n ?_
    refine r_cond_t rfl ?_
    refine r_seq ?_
    refine r_items ?_
    refine i_op (a_mov rfl ?_) rfl rfl
    refine i_op (a_mov rfl ?_) rfl rfl
    refine i_op (a_mov rfl ?_) rfl rfl
    refine i_nil ?_
    refine then_n ?_
    refine r_ret ?_
    refine then_r ?_
    by_cases z1 : ((1 ≤ L ∧ L ≤ 100000) ∧ (1 ≤ D ∧ D ≤ 15000) ∧ ((1 ≤ (rs.length : Int) ∧ (rs.length : Int) ≤ 20) ∧ tabB 0 rs = true) ∧ ((ss.length : Int) ≤ 30 ∧ seaB ss = true))
    · by_cases z2 : (1 ≤ zone ∧ zone ≤ 20)
      · by_cases z3 : (0 ≤ d ∧ d ≤ 100000)
        · refine end2 rfl rfl (.inr (.inr (.inr ⟨z1, z2, z3, ?_⟩)))
          first | exact ⟨i, hfst, rfl, rfl⟩ | (refine ⟨i, hfst, ?_, rfl⟩; have h9 : fbE L rs i = 0 := (by assumption); rw [if_pos h9, h9]; done) | (refine ⟨i, hfst, ?_, rfl⟩; have h9 : ¬ fbE L rs i = 0 := (by assumption); rw [if_neg h9]; done) | (exfalso; contradiction) | (exfalso; omega)
        · refine end2 rfl rfl (.inr (.inr (.inl ⟨z1, z2, z3, ?_, rfl⟩)))
          first | rfl | (exfalso; contradiction) | (exfalso; omega)
      · refine end2 rfl rfl (.inr (.inl ⟨z1, z2, ?_, rfl⟩))
        first | rfl | (exfalso; contradiction) | (exfalso; omega)
    · refine end2 rfl rfl (.inl ⟨z1, ?_, rfl⟩)
      first | rfl | (exfalso; contradiction) | (exfalso; omega)
  · refine i_op (a_mov rfl ?_) rfl rfl
    refine i_nil ?_
    refine then_n ?_
    refine r_seq ?_
    refine r_seq ?_
    refine r_items ?_
    refine i_op (a_mov rfl ?_) rfl rfl
    refine i_op (a_neq rfl rfl (fun _ => ?_) (fun h => absurd h (by decide))) rfl rfl
    refine i_nil ?_
    refine then_n ?_
    refine r_cond_t rfl ?_
    refine r_seq ?_
    refine r_items ?_
    refine i_op (a_mov rfl ?_) rfl rfl
    refine i_op (a_mov rfl ?_) rfl rfl
    refine i_op (a_mov rfl ?_) rfl rfl
    refine i_nil ?_
    refine then_n ?_
    refine r_ret ?_
    refine then_r ?_
    by_cases z1 : ((1 ≤ L ∧ L ≤ 100000) ∧ (1 ≤ D ∧ D ≤ 15000) ∧ ((1 ≤ (rs.length : Int) ∧ (rs.length : Int) ≤ 20) ∧ tabB 0 rs = true) ∧ ((ss.length : Int) ≤ 30 ∧ seaB ss = true))
    · by_cases z2 : (1 ≤ zone ∧ zone ≤ 20)
      · by_cases z3 : (0 ≤ d ∧ d ≤ 100000)
        · refine end2 rfl rfl (.inr (.inr (.inr ⟨z1, z2, z3, ?_⟩)))
          first | exact ⟨i, hfst, rfl, rfl⟩ | (refine ⟨i, hfst, ?_, rfl⟩; have h9 : fbE L rs i = 0 := (by assumption); rw [if_pos h9, h9]; done) | (refine ⟨i, hfst, ?_, rfl⟩; have h9 : ¬ fbE L rs i = 0 := (by assumption); rw [if_neg h9]; done) | (exfalso; contradiction) | (exfalso; omega)
        · refine end2 rfl rfl (.inr (.inr (.inl ⟨z1, z2, z3, ?_, rfl⟩)))
          first | rfl | (exfalso; contradiction) | (exfalso; omega)
      · refine end2 rfl rfl (.inr (.inl ⟨z1, z2, ?_, rfl⟩))
        first | rfl | (exfalso; contradiction) | (exfalso; omega)
    · refine end2 rfl rfl (.inl ⟨z1, ?_, rfl⟩)
      first | rfl | (exfalso; contradiction) | (exfalso; omega)

end
end Ev
end Go.Proofs.YtgbfnonfecpajaaGreat
