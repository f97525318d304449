import Derived.Test.YtgbfnonfecpajaaGreatZc05
set_option linter.unusedVariables false
set_option linter.unusedSimpArgs false
/- Contracts, by the evaluator: lines. -/
namespace Go.Proofs.YtgbfnonfecpajaaGreat
open Go Go.RowKit
namespace Ev
def tabB : Int → List (List Int) → Bool
  | _, [] => true
  | b, [l, e] :: rs => decide ((b + 1 ≤ l ∧ l ≤ 100000) ∧ (0 ≤ e ∧ e ≤ 5000)) && tabB l rs
  | _, _ :: _ => false
def prevN (j : Nat) (rs : List (List Int)) (k : Nat) : Int := if k = 0 then 0 else (rs.getD (k - 1) []).getD j 0
theorem prevN_succ {j : Nat} {rs : List (List Int)} {k : Nat} {r : List Int} (h : rs[k]? = some r) : prevN j rs (k + 1) = r.getD j 0 := by
  unfold prevN
  rw [if_neg (by omega), Nat.add_sub_cancel]; simp [List.getD_eq_getElem?_getD, h]
theorem tab_step {rs : List (List Int)} {k : Nat} {l e : Int} (h : rs[k]? = some [l, e]) (hi : tabB 0 rs = tabB (prevN 0 rs k) (rs.drop k)) : tabB 0 rs = (decide ((prevN 0 rs k + 1 ≤ l ∧ l ≤ 100000) ∧ (0 ≤ e ∧ e ≤ 5000)) && tabB (prevN 0 rs (k + 1)) (rs.drop (k + 1))) := by
  obtain ⟨hk, he⟩ := List.getElem?_eq_some_iff.1 h
  rw [prevN_succ h, hi, List.drop_eq_getElem_cons hk, he]; rfl
theorem tab_bad {rs : List (List Int)} {k : Nat} {l e : Int} (h : rs[k]? = some [l, e]) (hi : tabB 0 rs = tabB (prevN 0 rs k) (rs.drop k)) (hn : ¬ ((prevN 0 rs k + 1 ≤ l ∧ l ≤ 100000) ∧ (0 ≤ e ∧ e ≤ 5000))) : tabB 0 rs = false := by
  rw [tab_step h hi, decide_eq_false hn]; rfl
theorem tab_good {rs : List (List Int)} {k : Nat} {l e : Int} (h : rs[k]? = some [l, e]) (hi : tabB 0 rs = tabB (prevN 0 rs k) (rs.drop k)) (hn : (prevN 0 rs k + 1 ≤ l ∧ l ≤ 100000) ∧ (0 ≤ e ∧ e ≤ 5000)) : tabB 0 rs = tabB (prevN 0 rs (k + 1)) (rs.drop (k + 1)) := by
  rw [tab_step h hi, decide_eq_true hn]; rfl
theorem tab_end {rs : List (List Int)} {k : Nat} (hi : tabB 0 rs = tabB (prevN 0 rs k) (rs.drop k)) (hk : rs.length ≤ k) : tabB 0 rs = true := by
  rw [hi, List.drop_eq_nil_of_le hk]; simp [tabB]
def seaB : List (List Int) → Bool
  | [] => true
  | [z, f, t, e] :: rs => decide ((1 ≤ z ∧ z ≤ 20) ∧ (1 ≤ f ∧ f ≤ 365) ∧ (1 ≤ t ∧ t ≤ 365) ∧ (0 ≤ e ∧ e ≤ 5000)) && seaB rs
  | _ :: _ => false
theorem sea_step {rs : List (List Int)} {k : Nat} {z f t e : Int} (h : rs[k]? = some [z, f, t, e]) (hi : seaB rs = seaB (rs.drop k)) : seaB rs = (decide ((1 ≤ z ∧ z ≤ 20) ∧ (1 ≤ f ∧ f ≤ 365) ∧ (1 ≤ t ∧ t ≤ 365) ∧ (0 ≤ e ∧ e ≤ 5000)) && seaB (rs.drop (k + 1))) := by
  obtain ⟨hk, he⟩ := List.getElem?_eq_some_iff.1 h
  rw [hi, List.drop_eq_getElem_cons hk, he]; rfl
theorem sea_bad {rs : List (List Int)} {k : Nat} {z f t e : Int} (h : rs[k]? = some [z, f, t, e]) (hi : seaB rs = seaB (rs.drop k)) (hn : ¬ ((1 ≤ z ∧ z ≤ 20) ∧ (1 ≤ f ∧ f ≤ 365) ∧ (1 ≤ t ∧ t ≤ 365) ∧ (0 ≤ e ∧ e ≤ 5000))) : seaB rs = false := by
  rw [sea_step h hi, decide_eq_false hn]; rfl
theorem sea_good {rs : List (List Int)} {k : Nat} {z f t e : Int} (h : rs[k]? = some [z, f, t, e]) (hi : seaB rs = seaB (rs.drop k)) (hn : (1 ≤ z ∧ z ≤ 20) ∧ (1 ≤ f ∧ f ≤ 365) ∧ (1 ≤ t ∧ t ≤ 365) ∧ (0 ≤ e ∧ e ≤ 5000)) : seaB rs = seaB (rs.drop (k + 1)) := by
  rw [sea_step h hi, decide_eq_true hn]; rfl
theorem sea_end {rs : List (List Int)} {k : Nat} (hi : seaB rs = seaB (rs.drop k)) (hk : rs.length ≤ k) : seaB rs = true := by
  rw [hi, List.drop_eq_nil_of_le hk]; rfl
theorem I64.lo {z : Int} (h : I64 z) : -9223372036854775808 ≤ z := h.1
theorem I64.hi {z : Int} (h : I64 z) : z < 9223372036854775808 := h.2
theorem RowsE.row2 {s : St} {a : Option Addr} {rs : List (List Int)} (h : RowsE s 2 a rs) {k : Nat} (hk : k < rs.length) : ∃ b o l e, a = some ⟨b, o, none⟩ ∧ rs[k]? = some [l, e] ∧ Ats s b (o + k * 2) [.int .i64 l, .int .i64 e] ∧ I64 l ∧ I64 e := by
  obtain ⟨b, o, r, h1, h2, h3, h4, h5⟩ := h.row hk
  obtain ⟨l, r1, rfl, g1⟩ := list_len_succ h3
  obtain ⟨e, r2, rfl, g2⟩ := list_len_succ g1
  have : r2 = [] := List.eq_nil_of_length_eq_zero g2
  subst this
  exact ⟨b, o, l, e, h1, h2, h4, h5 l (by simp), h5 e (by simp)⟩
theorem RowsE.row4 {s : St} {a : Option Addr} {rs : List (List Int)} (h : RowsE s 4 a rs) {k : Nat} (hk : k < rs.length) : ∃ b o z f t e, a = some ⟨b, o, none⟩ ∧ rs[k]? = some [z, f, t, e] ∧ Ats s b (o + k * 4) [.int .i64 z, .int .i64 f, .int .i64 t, .int .i64 e] ∧ I64 z ∧ I64 f ∧ I64 t ∧ I64 e := by
  obtain ⟨b, o, r, h1, h2, h3, h4, h5⟩ := h.row hk
  obtain ⟨z, r1, rfl, g1⟩ := list_len_succ h3
  obtain ⟨f, r2, rfl, g2⟩ := list_len_succ g1
  obtain ⟨t, r3, rfl, g3⟩ := list_len_succ g2
  obtain ⟨e, r4, rfl, g4⟩ := list_len_succ g3
  have : r4 = [] := List.eq_nil_of_length_eq_zero g4
  subst this
  exact ⟨b, o, z, f, t, e, h1, h2, h4, h5 z (by simp), h5 f (by simp), h5 t (by simp), h5 e (by simp)⟩

section
variable {X : FuncId → List Value → St → (Value → St → Bool) → Bool}
theorem isSeason_s (n : Nat) (z f t e : Int) (s : St) (hs : Wf s) : Spec Tryz.prog (tabK tabm) X (n + 60) 51 [.agg ⟨[.int .i64 z, .int .i64 f, .int .i64 t, .int .i64 e]⟩] s (fun v A => v = .bool (decide ((1 ≤ z ∧ z ≤ 20) ∧ (1 ≤ f ∧ f ≤ 365) ∧ (1 ≤ t ∧ t ≤ 365) ∧ (0 ≤ e ∧ e ≤ 5000))) ∧ A = []) := by
  refine enter bm51_at rfl hs ?_
  unfold bm51
  refine r_seq ?_
  refine r_items ?_
  refine i_op (a_box rfl rfl rfl (fun b1 => ?_)) rfl rfl
  refine i_op (a_mov rfl ?_) rfl rfl
  refine i_nil ?_
  refine then_n ?_
  refine r_seq ?_
  refine r_items ?_
  refine i_op (a_fa rfl ?_) rfl rfl
  refine i_op (a_ld rfl .here rfl ?_) rfl rfl
  refine i_op (a_callB rfl rfl (fun s1 h1 => isZone_s _ _ s1 h1.wf) (fun h2 => ?_) (fun h2 => ?_)) rfl rfl
  · refine i_op (a_mov rfl ?_) rfl rfl
    refine i_op (a_fa rfl ?_) rfl rfl
    refine i_op (a_ld rfl .here rfl ?_) rfl rfl
    refine i_op (a_callB rfl rfl (fun s1 h1 => inside_s _ _ _ _ s1 h1.wf) (fun h3 => ?_) (fun h3 => ?_)) rfl rfl
    · refine i_op (a_pick_t rfl rfl rfl ?_) rfl rfl
      refine i_op (a_mov rfl ?_) rfl rfl
      refine i_op (a_fa rfl ?_) rfl rfl
      refine i_op (a_ld rfl .here rfl ?_) rfl rfl
      refine i_op (a_callB rfl rfl (fun s1 h1 => inside_s _ _ _ _ s1 h1.wf) (fun h4 => ?_) (fun h4 => ?_)) rfl rfl
      · refine i_op (a_pick_t rfl rfl rfl ?_) rfl rfl
        refine i_op (a_mov rfl ?_) rfl rfl
        refine i_op (a_fa rfl ?_) rfl rfl
        refine i_op (a_ld rfl .here rfl ?_) rfl rfl
        refine i_op (a_callB rfl rfl (fun s1 h1 => inside_s _ _ _ _ s1 h1.wf) (fun h5 => ?_) (fun h5 => ?_)) rfl rfl
        · refine i_op (a_pick_t rfl rfl rfl ?_) rfl rfl
          refine i_op (a_mov rfl ?_) rfl rfl
          refine i_nil ?_
          refine then_n ?_
          refine r_ret ?_
          refine end1 rfl ⟨congrArg Value.bool ?_, rfl⟩
          first | exact (decide_eq_true (by omega)).symm | exact (decide_eq_false (by omega)).symm
        · refine i_op (a_pick_t rfl rfl rfl ?_) rfl rfl
          refine i_op (a_mov rfl ?_) rfl rfl
          refine i_nil ?_
          refine then_n ?_
          refine r_ret ?_
          refine end1 rfl ⟨congrArg Value.bool ?_, rfl⟩
          first | exact (decide_eq_true (by omega)).symm | exact (decide_eq_false (by omega)).symm
      · refine i_op (a_pick_t rfl rfl rfl ?_) rfl rfl
        refine i_op (a_mov rfl ?_) rfl rfl
        refine i_no rfl rfl ?_
        refine i_no rfl rfl ?_
        refine i_no rfl rfl ?_
        refine i_op (a_pick_f rfl rfl rfl ?_) rfl rfl
        refine i_op (a_mov rfl ?_) rfl rfl
        refine i_nil ?_
        refine then_n ?_
        refine r_ret ?_
        refine end1 rfl ⟨congrArg Value.bool ?_, rfl⟩
        first | exact (decide_eq_true (by omega)).symm | exact (decide_eq_false (by omega)).symm
    · refine i_op (a_pick_t rfl rfl rfl ?_) rfl rfl
      refine i_op (a_mov rfl ?_) rfl rfl
      refine i_no rfl rfl ?_
      refine i_no rfl rfl ?_
      refine i_no rfl rfl ?_
      refine i_op (a_pick_f rfl rfl rfl ?_) rfl rfl
      refine i_op (a_mov rfl ?_) rfl rfl
      refine i_no rfl rfl ?_
      refine i_no rfl rfl ?_
      refine i_no rfl rfl ?_
      refine i_op (a_pick_f rfl rfl rfl ?_) rfl rfl
      refine i_op (a_mov rfl ?_) rfl rfl
      refine i_nil ?_
      refine then_n ?_
      refine r_ret ?_
      refine end1 rfl ⟨congrArg Value.bool ?_, rfl⟩
      first | exact (decide_eq_true (by omega)).symm | exact (decide_eq_false (by omega)).symm
  · refine i_op (a_mov rfl ?_) rfl rfl
    refine i_no rfl rfl ?_
    refine i_no rfl rfl ?_
    refine i_no rfl rfl ?_
    refine i_op (a_pick_f rfl rfl rfl ?_) rfl rfl
    refine i_op (a_mov rfl ?_) rfl rfl
    refine i_no rfl rfl ?_
    refine i_no rfl rfl ?_
    refine i_no rfl rfl ?_
    refine i_op (a_pick_f rfl rfl rfl ?_) rfl rfl
    refine i_op (a_mov rfl ?_) rfl rfl
    refine i_no rfl rfl ?_
    refine i_no rfl rfl ?_
    refine i_no rfl rfl ?_
    refine i_op (a_pick_f rfl rfl rfl ?_) rfl rfl
    refine i_op (a_mov rfl ?_) rfl rfl
    refine i_nil ?_
    refine then_n ?_
    refine r_ret ?_
    refine end1 rfl ⟨congrArg Value.bool ?_, rfl⟩
    first | exact (decide_eq_true (by omega)).symm | exact (decide_eq_false (by omega)).symm

theorem isTable_s (n : Nat) (a : Option Addr) (cap : Nat) (rs : List (List Int)) (s : St) (hs : Wf s) (hn : 281474976710656 ≤ n) (hR : RowsE s 2 a rs) : Spec Tryz.prog (tabK tabm) X (n + 150) 25 [.slice a rs.length cap] s (fun v A => v = .bool (decide ((1 ≤ (rs.length : Int) ∧ (rs.length : Int) ≤ 20) ∧ tabB 0 rs = true)) ∧ A = []) := by
  refine enter bm25_at rfl hs ?_
  unfold bm25
  have hlen := hR.len
  refine r_seq ?_
  refine r_items ?_
  refine i_op (a_mov rfl ?_) rfl rfl
  refine i_nil ?_
  refine then_n ?_
  refine r_seq ?_
  refine r_seq ?_
  refine r_items ?_
  refine i_op (a_mov rfl ?_) rfl rfl
  refine i_op (a_lenx rfl hR.spot ?_) rfl rfl
  refine i_op (a_callB rfl rfl (fun s1 h1 => inside_s _ _ _ _ s1 h1.wf) (fun h1 => ?_) (fun h1 => ?_)) rfl rfl
  · refine i_op (a_not rfl ?_) rfl rfl
    refine i_nil ?_
    refine then_n ?_
    refine r_cond_f rfl ?_
    refine r_skip ?_
    refine then_n ?_
    refine r_seq ?_
    refine r_items ?_
    refine i_op (a_mov rfl ?_) rfl rfl
    refine i_nil ?_
    refine then_n ?_
    refine r_seq ?_
    refine r_seq ?_
    refine r_items ?_
    refine i_op (a_mov rfl ?_) rfl rfl
    refine i_op (a_lenx rfl hR.spot ?_) rfl rfl
    refine i_op (a_mov rfl ?_) rfl rfl
    refine i_nil ?_
    refine then_n ?_
    refine r_block ?_
    refine r_loop (fun j e A => ∃ (k : Nat), e = [(10, .slice a rs.length cap), (11, .int .i64 (rs.length : Int)), (12, .int .i64 (k : Int)), (3, .int .i64 (prevN 0 rs k))] ∧ A = [] ∧ j = rs.length - k ∧ k ≤ rs.length ∧ tabB 0 rs = tabB (prevN 0 rs k) (rs.drop k) ∧ -1 ≤ prevN 0 rs k ∧ prevN 0 rs k ≤ 100000) 90 0 281474976710656 ?_ (j := _) (env2 := _) (A2 := _) ?_ ?_ ?_ ?_ ⟨0, rfl, rfl, rfl, Nat.zero_le _, rfl, (by show -1 ≤ (0 : Int) ∧ (0 : Int) ≤ 100000; omega)⟩
    rotate_left
    · omega
    · omega
    · exact (Less.cons rfl (Less.cons rfl (Less.cons rfl (Less.cons rfl Less.nil))))
    · exact .slnil
    rintro n hn j _ _ ⟨k, rfl, rfl, rfl, hk, hi, hp⟩
    refine r_seq ?_
    refine r_items ?_
    refine i_op (a_lss rfl rfl (fun h2 => ?_) (fun h2 => ?_)) rfl rfl
    · obtain ⟨b, o, l, e, rfl, hr, hat, hl64, he64⟩ := hR.row2 (k := k) (by omega)
      have hat2 := hat
      obtain ⟨d0, d1, _⟩ := hat2
      have := hl64.lo; have := hl64.hi; have := he64.lo; have := he64.hi
      refine i_nil ?_
      refine then_n ?_
      refine r_seq ?_
      refine r_cond_t rfl ?_
      refine r_skip ?_
      refine then_n ?_
      refine r_seq ?_
      refine r_block ?_
      refine r_seq ?_
      refine r_items ?_
      refine i_op (a_ia rfl rfl rfl (by omega) ?_) rfl rfl
      refine i_op (a_ldar rfl (by decide) (by assumption) rfl ?_) rfl rfl
      refine i_op (a_new rfl rfl (fun b3 => ?_)) rfl rfl
      refine i_opn (a_sta rfl rfl .here rfl rfl rfl rfl ?_) rfl
      refine i_nil ?_
      refine then_n ?_
      refine r_seq ?_
      refine r_seq ?_
      refine r_items ?_
      refine i_op (a_fa rfl ?_) rfl rfl
      refine i_op (a_ld rfl .here rfl ?_) rfl rfl
      refine i_op (a_mov rfl ?_) rfl rfl
      refine i_op (a_add rfl rfl (by omega) ?_) rfl rfl
      refine i_op (a_callB rfl rfl (fun s1 h1 => inside_s _ _ _ _ s1 h1.wf) (fun h4 => ?_) (fun h4 => ?_)) rfl rfl
      · refine i_op (a_not rfl ?_) rfl rfl
        refine i_op (a_mov rfl ?_) rfl rfl
        refine i_op (a_fa rfl ?_) rfl rfl
        refine i_op (a_ld rfl .here rfl ?_) rfl rfl
        refine i_op (a_callB rfl rfl (fun s1 h1 => inside_s _ _ _ _ s1 h1.wf) (fun h5 => ?_) (fun h5 => ?_)) rfl rfl
        · refine i_op (a_not rfl ?_) rfl rfl
          refine i_op (a_pick_f rfl rfl rfl ?_) rfl rfl
          refine i_nil ?_
          refine then_n ?_
          refine r_cond_f rfl ?_
          refine r_skip ?_
          refine then_n ?_
          refine r_items ?_
          refine i_op (a_fa rfl ?_) rfl rfl
          refine i_op (a_ld rfl .here rfl ?_) rfl rfl
          refine i_op (a_mov rfl ?_) rfl rfl
          refine i_nil ?_
          refine block_n ?_
          refine then_n ?_
          refine r_items ?_
          refine i_op (a_add rfl rfl (by omega) ?_) rfl rfl
          refine i_op (a_mov rfl ?_) rfl rfl
          refine i_nil ?_
          refine then_n ?_
          exact ⟨rfl, _, _, _, (show rs.length - (k + 1) < rs.length - k by omega), (Less.cons (t := 10) rfl (Less.cons (t := 11) rfl (Less.cons (t := 12) rfl (Less.cons (t := 3) rfl Less.nil)))), (.cons _ .slnil), ⟨k + 1, (by rw [prevN_succ hr]; rfl), rfl, rfl, by omega, tab_good hr hi (by omega), (by rw [prevN_succ hr]; show -1 ≤ l ∧ l ≤ 100000; omega)⟩⟩
        · refine i_op (a_not rfl ?_) rfl rfl
          refine i_op (a_pick_f rfl rfl rfl ?_) rfl rfl
          refine i_nil ?_
          refine then_n ?_
          refine r_cond_t rfl ?_
          refine r_seq ?_
          refine r_items ?_
          refine i_op (a_mov rfl ?_) rfl rfl
          refine i_nil ?_
          refine then_n ?_
          refine r_ret ?_
          refine then_r ?_
          refine block_r ?_
          refine then_r ?_
          refine then_r ?_
          refine block_r ?_
          refine then_r ?_
          first
            | (refine end1 rfl ⟨congrArg Value.bool (decide_eq_false (fun h => ?_)).symm, rfl⟩; first | omega | (obtain ⟨_, h⟩ := h; rw [tab_bad hr hi (by omega)] at h; exact absurd h (by decide)) | (obtain ⟨_, h⟩ := h; rw [sea_bad hr hi (by omega)] at h; exact absurd h (by decide)))
            | exact end1 rfl ⟨congrArg Value.bool (decide_eq_true ⟨by omega, by first | exact tab_end hi (by omega) | exact sea_end hi (by omega)⟩).symm, rfl⟩
      · refine i_op (a_not rfl ?_) rfl rfl
        refine i_op (a_mov rfl ?_) rfl rfl
        refine i_no rfl rfl ?_
        refine i_no rfl rfl ?_
        refine i_no rfl rfl ?_
        refine i_no rfl rfl ?_
        refine i_op (a_pick_t rfl rfl rfl ?_) rfl rfl
        refine i_nil ?_
        refine then_n ?_
        refine r_cond_t rfl ?_
        refine r_seq ?_
        refine r_items ?_
        refine i_op (a_mov rfl ?_) rfl rfl
        refine i_nil ?_
        refine then_n ?_
        refine r_ret ?_
        refine then_r ?_
        refine block_r ?_
        refine then_r ?_
        refine then_r ?_
        refine block_r ?_
        refine then_r ?_
        first
          | (refine end1 rfl ⟨congrArg Value.bool (decide_eq_false (fun h => ?_)).symm, rfl⟩; first | omega | (obtain ⟨_, h⟩ := h; rw [tab_bad hr hi (by omega)] at h; exact absurd h (by decide)) | (obtain ⟨_, h⟩ := h; rw [sea_bad hr hi (by omega)] at h; exact absurd h (by decide)))
          | exact end1 rfl ⟨congrArg Value.bool (decide_eq_true ⟨by omega, by first | exact tab_end hi (by omega) | exact sea_end hi (by omega)⟩).symm, rfl⟩
    · refine i_nil ?_
      refine then_n ?_
      refine r_seq ?_
      refine r_cond_f rfl ?_
      refine r_exit ?_
      refine then_e ?_
      refine then_e ?_
      refine block_hit ?_
      refine then_n ?_
      refine r_seq ?_
      refine r_items ?_
      refine i_op (a_mov rfl ?_) rfl rfl
      refine i_nil ?_
      refine then_n ?_
      refine r_ret ?_
      first
        | (refine end1 rfl ⟨congrArg Value.bool (decide_eq_false (fun h => ?_)).symm, rfl⟩; first | omega | (obtain ⟨_, h⟩ := h; rw [tab_bad hr hi (by omega)] at h; exact absurd h (by decide)) | (obtain ⟨_, h⟩ := h; rw [sea_bad hr hi (by omega)] at h; exact absurd h (by decide)))
        | exact end1 rfl ⟨congrArg Value.bool (decide_eq_true ⟨by omega, by first | exact tab_end hi (by omega) | exact sea_end hi (by omega)⟩).symm, rfl⟩
  · refine i_op (a_not rfl ?_) rfl rfl
    refine i_nil ?_
    refine then_n ?_
    refine r_cond_t rfl ?_
    refine r_seq ?_
    refine r_items ?_
    refine i_op (a_mov rfl ?_) rfl rfl
    refine i_nil ?_
    refine then_n ?_
    refine r_ret ?_
    refine then_r ?_
    first
      | (refine end1 rfl ⟨congrArg Value.bool (decide_eq_false (fun h => ?_)).symm, rfl⟩; first | omega | (obtain ⟨_, h⟩ := h; rw [tab_bad hr hi (by omega)] at h; exact absurd h (by decide)) | (obtain ⟨_, h⟩ := h; rw [sea_bad hr hi (by omega)] at h; exact absurd h (by decide)))
      | exact end1 rfl ⟨congrArg Value.bool (decide_eq_true ⟨by omega, by first | exact tab_end hi (by omega) | exact sea_end hi (by omega)⟩).symm, rfl⟩

theorem areSeasons_s (n : Nat) (a : Option Addr) (cap : Nat) (rs : List (List Int)) (s : St) (hs : Wf s) (hn : 281474976710656 ≤ n) (hS : RowsE s 4 a rs) : Spec Tryz.prog (tabK tabm) X (n + 150) 26 [.slice a rs.length cap] s (fun v A => v = .bool (decide ((rs.length : Int) ≤ 30 ∧ seaB rs = true)) ∧ A = []) := by
  refine enter bm26_at rfl hs ?_
  unfold bm26
  have hlen := hS.len
  refine r_seq ?_
  refine r_items ?_
  refine i_op (a_mov rfl ?_) rfl rfl
  refine i_nil ?_
  refine then_n ?_
  refine r_seq ?_
  refine r_seq ?_
  refine r_items ?_
  refine i_op (a_mov rfl ?_) rfl rfl
  refine i_op (a_lenx rfl hS.spot ?_) rfl rfl
  refine i_op (a_gtr rfl rfl (fun h1 => ?_) (fun h1 => ?_)) rfl rfl
  · refine i_nil ?_
    refine then_n ?_
    refine r_cond_t rfl ?_
    refine r_seq ?_
    refine r_items ?_
    refine i_op (a_mov rfl ?_) rfl rfl
    refine i_nil ?_
    refine then_n ?_
    refine r_ret ?_
    refine then_r ?_
    first
      | (refine end1 rfl ⟨congrArg Value.bool (decide_eq_false (fun h => ?_)).symm, rfl⟩; first | omega | (obtain ⟨_, h⟩ := h; rw [tab_bad hr hi (by omega)] at h; exact absurd h (by decide)) | (obtain ⟨_, h⟩ := h; rw [sea_bad hr hi (by omega)] at h; exact absurd h (by decide)))
      | exact end1 rfl ⟨congrArg Value.bool (decide_eq_true ⟨by omega, by first | exact tab_end hi (by omega) | exact sea_end hi (by omega)⟩).symm, rfl⟩
  · refine i_nil ?_
    refine then_n ?_
    refine r_cond_f rfl ?_
    refine r_skip ?_
    refine then_n ?_
    refine r_seq ?_
    refine r_seq ?_
    refine r_items ?_
    refine i_op (a_mov rfl ?_) rfl rfl
    refine i_op (a_lenx rfl hS.spot ?_) rfl rfl
    refine i_op (a_mov rfl ?_) rfl rfl
    refine i_nil ?_
    refine then_n ?_
    refine r_block ?_
    refine r_loop (fun j e A => ∃ (k : Nat), e = [(8, .slice a rs.length cap), (9, .int .i64 (rs.length : Int)), (10, .int .i64 (k : Int))] ∧ A = [] ∧ j = rs.length - k ∧ k ≤ rs.length ∧ seaB rs = seaB (rs.drop k)) 90 0 281474976710656 ?_ (j := _) (env2 := _) (A2 := _) ?_ ?_ ?_ ?_ ⟨0, rfl, rfl, rfl, Nat.zero_le _, rfl⟩
    rotate_left
    · omega
    · omega
    · exact (Less.cons rfl (Less.cons rfl (Less.cons rfl Less.nil)))
    · exact .slnil
    rintro n hn j _ _ ⟨k, rfl, rfl, rfl, hk, hi⟩
    refine r_seq ?_
    refine r_items ?_
    refine i_op (a_lss rfl rfl (fun h2 => ?_) (fun h2 => ?_)) rfl rfl
    · obtain ⟨b, o, z, f, t, e, rfl, hr, hat, hz64, hf64, ht64, he64⟩ := hS.row4 (k := k) (by omega)
      have hat2 := hat
      obtain ⟨d0, d1, d2, d3, _⟩ := hat2
      have := hz64.lo; have := hz64.hi; have := hf64.lo; have := hf64.hi; have := ht64.lo; have := ht64.hi; have := he64.lo; have := he64.hi
      refine i_nil ?_
      refine then_n ?_
      refine r_seq ?_
      refine r_cond_t rfl ?_
      refine r_skip ?_
      refine then_n ?_
      refine r_seq ?_
      refine r_block ?_
      refine r_seq ?_
      refine r_items ?_
      refine i_op (a_ia rfl rfl rfl (by omega) ?_) rfl rfl
      refine i_op (a_ldar rfl (by decide) (by assumption) rfl ?_) rfl rfl
      refine i_op (a_new rfl rfl (fun b3 => ?_)) rfl rfl
      refine i_opn (a_sta rfl rfl .here rfl rfl rfl rfl ?_) rfl
      refine i_nil ?_
      refine then_n ?_
      refine r_seq ?_
      refine r_items ?_
      refine i_op (a_lda rfl (by decide) .here rfl ?_) rfl rfl
      refine i_op (a_callB rfl rfl (fun s1 h1 => isSeason_s _ _ _ _ _ s1 h1.wf) (fun h4 => ?_) (fun h4 => ?_)) rfl rfl
      · refine i_op (a_not rfl ?_) rfl rfl
        refine i_nil ?_
        refine then_n ?_
        refine r_cond_f rfl ?_
        refine r_skip ?_
        refine block_n ?_
        refine then_n ?_
        refine r_items ?_
        refine i_op (a_add rfl rfl (by omega) ?_) rfl rfl
        refine i_op (a_mov rfl ?_) rfl rfl
        refine i_nil ?_
        refine then_n ?_
        exact ⟨rfl, _, _, _, (show rs.length - (k + 1) < rs.length - k by omega), (Less.cons (t := 8) rfl (Less.cons (t := 9) rfl (Less.cons (t := 10) rfl Less.nil))), (.cons _ .slnil), ⟨k + 1, rfl, rfl, rfl, by omega, sea_good hr hi (by omega)⟩⟩
      · refine i_op (a_not rfl ?_) rfl rfl
        refine i_nil ?_
        refine then_n ?_
        refine r_cond_t rfl ?_
        refine r_seq ?_
        refine r_items ?_
        refine i_op (a_mov rfl ?_) rfl rfl
        refine i_nil ?_
        refine then_n ?_
        refine r_ret ?_
        refine block_r ?_
        refine then_r ?_
        refine then_r ?_
        refine block_r ?_
        refine then_r ?_
        first
          | (refine end1 rfl ⟨congrArg Value.bool (decide_eq_false (fun h => ?_)).symm, rfl⟩; first | omega | (obtain ⟨_, h⟩ := h; rw [tab_bad hr hi (by omega)] at h; exact absurd h (by decide)) | (obtain ⟨_, h⟩ := h; rw [sea_bad hr hi (by omega)] at h; exact absurd h (by decide)))
          | exact end1 rfl ⟨congrArg Value.bool (decide_eq_true ⟨by omega, by first | exact tab_end hi (by omega) | exact sea_end hi (by omega)⟩).symm, rfl⟩
    · refine i_nil ?_
      refine then_n ?_
      refine r_seq ?_
      refine r_cond_f rfl ?_
      refine r_exit ?_
      refine then_e ?_
      refine then_e ?_
      refine block_hit ?_
      refine then_n ?_
      refine r_seq ?_
      refine r_items ?_
      refine i_op (a_mov rfl ?_) rfl rfl
      refine i_nil ?_
      refine then_n ?_
      refine r_ret ?_
      first
        | (refine end1 rfl ⟨congrArg Value.bool (decide_eq_false (fun h => ?_)).symm, rfl⟩; first | omega | (obtain ⟨_, h⟩ := h; rw [tab_bad hr hi (by omega)] at h; exact absurd h (by decide)) | (obtain ⟨_, h⟩ := h; rw [sea_bad hr hi (by omega)] at h; exact absurd h (by decide)))
        | exact end1 rfl ⟨congrArg Value.bool (decide_eq_true ⟨by omega, by first | exact tab_end hi (by omega) | exact sea_end hi (by omega)⟩).symm, rfl⟩

theorem CheckLines_s (n : Nat) (L D : Int) (a c : Option Addr) (cap cap2 : Nat) (rs ss : List (List Int)) (s : St) (hs : Wf s) (hn : 281474976710656 ≤ n) (hR : RowsE s 2 a rs) (hS : RowsE s 4 c ss) : Spec Tryz.prog (tabK tabm) X (n + 300) 7 [.agg ⟨[.int .i64 L, .int .i64 D, .slice a rs.length cap, .slice c ss.length cap2]⟩] s (fun v A => v = .int .i64 (if (1 ≤ L ∧ L ≤ 100000) ∧ (1 ≤ D ∧ D ≤ 15000) ∧ ((1 ≤ (rs.length : Int) ∧ (rs.length : Int) ≤ 20) ∧ tabB 0 rs = true) ∧ ((ss.length : Int) ≤ 30 ∧ seaB ss = true) then 0 else 60) ∧ A = []) := by
  refine enter bm7_at rfl hs ?_
  unfold bm7
  have hlen := hR.len
  have hlen2 := hS.len
  refine r_seq ?_
  refine r_items ?_
  refine i_op (a_box rfl rfl rfl (fun b1 => ?_)) rfl rfl
  refine i_op (a_mov rfl ?_) rfl rfl
  refine i_nil ?_
  refine then_n ?_
  refine r_seq ?_
  refine r_items ?_
  refine i_op (a_fa rfl ?_) rfl rfl
  refine i_op (a_ld rfl .here rfl ?_) rfl rfl
  refine i_op (a_callB rfl rfl (fun s1 h1 => inside_s _ _ _ _ s1 h1.wf) (fun h2 => ?_) (fun h2 => ?_)) rfl rfl
  · refine i_op (a_mov rfl ?_) rfl rfl
    refine i_op (a_fa rfl ?_) rfl rfl
    refine i_op (a_ld rfl .here rfl ?_) rfl rfl
    refine i_op (a_callB rfl rfl (fun s1 h1 => inside_s _ _ _ _ s1 h1.wf) (fun h3 => ?_) (fun h3 => ?_)) rfl rfl
    · refine i_op (a_pick_t rfl rfl rfl ?_) rfl rfl
      refine i_op (a_mov rfl ?_) rfl rfl
      refine i_op (a_fa rfl ?_) rfl rfl
      refine i_op (a_ld rfl .here rfl ?_) rfl rfl
      refine i_op (a_callB rfl rfl (fun s1 h1 => isTable_s _ _ _ _ s1 h1.wf (by omega) (hR.ext hs h1.2.1)) (fun h4 => ?_) (fun h4 => ?_)) rfl rfl
      · refine i_op (a_pick_t rfl rfl rfl ?_) rfl rfl
        refine i_op (a_mov rfl ?_) rfl rfl
        refine i_op (a_fa rfl ?_) rfl rfl
        refine i_op (a_ld rfl .here rfl ?_) rfl rfl
        refine i_op (a_callB rfl rfl (fun s1 h1 => areSeasons_s _ _ _ _ s1 h1.wf (by omega) (hS.ext hs h1.2.1)) (fun h5 => ?_) (fun h5 => ?_)) rfl rfl
        · refine i_op (a_pick_t rfl rfl rfl ?_) rfl rfl
          refine i_op (a_mov rfl ?_) rfl rfl
          refine i_nil ?_
          refine then_n ?_
          refine r_seq ?_
          refine r_items ?_
          refine i_op (a_mov rfl ?_) rfl rfl
          refine i_op (a_callV rfl rfl (fun s1 h1 => unless_t _ _ s1 h1.wf) ?_) rfl rfl
          refine i_op (a_mov rfl ?_) rfl rfl
          refine i_nil ?_
          refine then_n ?_
          refine r_ret ?_
          refine end1 rfl ⟨congrArg (Value.int .i64) ?_, rfl⟩
          first
            | exact (if_pos ⟨by omega, by omega, by assumption, by assumption⟩).symm
            | exact (if_neg (fun h => by obtain ⟨q1, q2, q3, q4⟩ := h; first | omega | contradiction)).symm
        · refine i_op (a_pick_t rfl rfl rfl ?_) rfl rfl
          refine i_op (a_mov rfl ?_) rfl rfl
          refine i_nil ?_
          refine then_n ?_
          refine r_seq ?_
          refine r_items ?_
          refine i_op (a_mov rfl ?_) rfl rfl
          refine i_op (a_callV rfl rfl (fun s1 h1 => unless_f _ _ s1 h1.wf) ?_) rfl rfl
          refine i_op (a_mov rfl ?_) rfl rfl
          refine i_nil ?_
          refine then_n ?_
          refine r_ret ?_
          refine end1 rfl ⟨congrArg (Value.int .i64) ?_, rfl⟩
          first
            | exact (if_pos ⟨by omega, by omega, by assumption, by assumption⟩).symm
            | exact (if_neg (fun h => by obtain ⟨q1, q2, q3, q4⟩ := h; first | omega | contradiction)).symm
      · refine i_op (a_pick_t rfl rfl rfl ?_) rfl rfl
        refine i_op (a_mov rfl ?_) rfl rfl
        refine i_no rfl rfl ?_
        refine i_no rfl rfl ?_
        refine i_no rfl rfl ?_
        refine i_op (a_pick_f rfl rfl rfl ?_) rfl rfl
        refine i_op (a_mov rfl ?_) rfl rfl
        refine i_nil ?_
        refine then_n ?_
        refine r_seq ?_
        refine r_items ?_
        refine i_op (a_mov rfl ?_) rfl rfl
        refine i_op (a_callV rfl rfl (fun s1 h1 => unless_f _ _ s1 h1.wf) ?_) rfl rfl
        refine i_op (a_mov rfl ?_) rfl rfl
        refine i_nil ?_
        refine then_n ?_
        refine r_ret ?_
        refine end1 rfl ⟨congrArg (Value.int .i64) ?_, rfl⟩
        first
          | exact (if_pos ⟨by omega, by omega, by assumption, by assumption⟩).symm
          | exact (if_neg (fun h => by obtain ⟨q1, q2, q3, q4⟩ := h; first | omega | contradiction)).symm
    · refine i_op (a_pick_t rfl rfl rfl ?_) rfl rfl
      refine i_op (a_mov rfl ?_) rfl rfl
      refine i_no rfl rfl ?_
      refine i_no rfl rfl ?_
      refine i_no rfl rfl ?_
      refine i_op (a_pick_f rfl rfl rfl ?_) rfl rfl
      refine i_op (a_mov rfl ?_) rfl rfl
      refine i_no rfl rfl ?_
      refine i_no rfl rfl ?_
      refine i_no rfl rfl ?_
      refine i_op (a_pick_f rfl rfl rfl ?_) rfl rfl
      refine i_op (a_mov rfl ?_) rfl rfl
      refine i_nil ?_
      refine then_n ?_
      refine r_seq ?_
      refine r_items ?_
      refine i_op (a_mov rfl ?_) rfl rfl
      refine i_op (a_callV rfl rfl (fun s1 h1 => unless_f _ _ s1 h1.wf) ?_) rfl rfl
      refine i_op (a_mov rfl ?_) rfl rfl
      refine i_nil ?_
      refine then_n ?_
      refine r_ret ?_
      refine end1 rfl ⟨congrArg (Value.int .i64) ?_, rfl⟩
      first
        | exact (if_pos ⟨by omega, by omega, by assumption, by assumption⟩).symm
        | exact (if_neg (fun h => by obtain ⟨q1, q2, q3, q4⟩ := h; first | omega | contradiction)).symm
  · refine i_op (a_mov rfl ?_) rfl rfl
    refine i_no rfl rfl ?_
    refine i_no rfl rfl ?_
    refine i_no rfl rfl ?_
    refine i_op (a_pick_f rfl rfl rfl ?_) rfl rfl
    refine i_op (a_mov rfl ?_) rfl rfl
    refine i_no rfl rfl ?_
    refine i_no rfl rfl ?_
    refine i_no rfl rfl ?_
    refine i_op (a_pick_f rfl rfl rfl ?_) rfl rfl
    refine i_op (a_mov rfl ?_) rfl rfl
    refine i_no rfl rfl ?_
    refine i_no rfl rfl ?_
    refine i_no rfl rfl ?_
    refine i_op (a_pick_f rfl rfl rfl ?_) rfl rfl
    refine i_op (a_mov rfl ?_) rfl rfl
    refine i_nil ?_
    refine then_n ?_
    refine r_seq ?_
    refine r_items ?_
    refine i_op (a_mov rfl ?_) rfl rfl
    refine i_op (a_callV rfl rfl (fun s1 h1 => unless_f _ _ s1 h1.wf) ?_) rfl rfl
    refine i_op (a_mov rfl ?_) rfl rfl
    refine i_nil ?_
    refine then_n ?_
    refine r_ret ?_
    refine end1 rfl ⟨congrArg (Value.int .i64) ?_, rfl⟩
    first
      | exact (if_pos ⟨by omega, by omega, by assumption, by assumption⟩).symm
      | exact (if_neg (fun h => by obtain ⟨q1, q2, q3, q4⟩ := h; first | omega | contradiction)).symm

theorem rCheckLines_s (n : Nat) (L D : Int) (a c : Option Addr) (cap cap2 : Nat) (rs ss : List (List Int)) (s : St) (hs : Wf s) (hn : 281474976710656 ≤ n) (hR : RowsE s 2 a rs) (hS : RowsE s 4 c ss) : Spec Tryz.prog (tabK tabm) X (n + 300) 8 [.agg ⟨[.int .i64 L, .int .i64 D, .slice a rs.length cap, .slice c ss.length cap2]⟩] s (fun v A => v = .int .i64 (if (1 ≤ L ∧ L ≤ 100000) ∧ (1 ≤ D ∧ D ≤ 15000) ∧ ((1 ≤ (rs.length : Int) ∧ (rs.length : Int) ≤ 20) ∧ tabB 0 rs = true) ∧ ((ss.length : Int) ≤ 30 ∧ seaB ss = true) then 0 else 60) ∧ A = []) := by
  refine enter bm8_at rfl hs ?_
  unfold bm8
  have hlen := hR.len
  have hlen2 := hS.len
  refine r_seq ?_
  refine r_items ?_
  refine i_op (a_box rfl rfl rfl (fun b1 => ?_)) rfl rfl
  refine i_op (a_mov rfl ?_) rfl rfl
  refine i_nil ?_
  refine then_n ?_
  refine r_seq ?_
  refine r_seq ?_
  refine r_items ?_
  refine i_op (a_fa rfl ?_) rfl rfl
  refine i_op (a_ld rfl .here rfl ?_) rfl rfl
  refine i_op (a_callB rfl rfl (fun s1 h1 => In_s _ _ _ _ s1 h1.wf) (fun h2 => ?_) (fun h2 => ?_)) rfl rfl
  · refine i_op (a_not rfl ?_) rfl rfl
    refine i_op (a_mov rfl ?_) rfl rfl
    refine i_op (a_fa rfl ?_) rfl rfl
    refine i_op (a_ld rfl .here rfl ?_) rfl rfl
    refine i_op (a_callB rfl rfl (fun s1 h1 => In_s _ _ _ _ s1 h1.wf) (fun h3 => ?_) (fun h3 => ?_)) rfl rfl
    · refine i_op (a_not rfl ?_) rfl rfl
      refine i_op (a_pick_f rfl rfl rfl ?_) rfl rfl
      refine i_op (a_mov rfl ?_) rfl rfl
      refine i_op (a_fa rfl ?_) rfl rfl
      refine i_op (a_ld rfl .here rfl ?_) rfl rfl
      refine i_op (a_lenx rfl (by first | exact hR.spot | exact hS.spot) ?_) rfl rfl
      refine i_op (a_callB rfl rfl (fun s1 h1 => In_s _ _ _ _ s1 h1.wf) (fun h4 => ?_) (fun h4 => ?_)) rfl rfl
      · refine i_op (a_not rfl ?_) rfl rfl
        refine i_op (a_pick_f rfl rfl rfl ?_) rfl rfl
        refine i_op (a_mov rfl ?_) rfl rfl
        refine i_op (a_fa rfl ?_) rfl rfl
        refine i_op (a_ld rfl .here rfl ?_) rfl rfl
        refine i_op (a_lenx rfl (by first | exact hR.spot | exact hS.spot) ?_) rfl rfl
        refine i_op (a_gtr rfl rfl (fun h5 => ?_) (fun h5 => ?_)) rfl rfl
        · refine i_op (a_pick_f rfl rfl rfl ?_) rfl rfl
          refine i_nil ?_
          refine then_n ?_
          refine r_cond_t rfl ?_
          refine r_seq ?_
          refine r_items ?_
          refine i_op (a_mov rfl ?_) rfl rfl
          refine i_nil ?_
          refine then_n ?_
          refine r_ret ?_
          refine then_r ?_
          refine end1 rfl ⟨congrArg (Value.int .i64) ?_, rfl⟩
          first
            | exact (if_neg (fun h => by obtain ⟨q1, q2, ⟨q3, q4⟩, q5, q6⟩ := h; first | omega | (rw [tab_bad hr hi (by omega)] at q4; exact absurd q4 (by decide)) | (rw [sea_bad hr hi (by omega)] at q6; exact absurd q6 (by decide)))).symm
            | exact (if_pos ⟨by omega, by omega, ⟨by omega, htab⟩, by omega, sea_end hi (by omega)⟩).symm
        · refine i_op (a_pick_f rfl rfl rfl ?_) rfl rfl
          refine i_nil ?_
          refine then_n ?_
          refine r_cond_f rfl ?_
          refine r_skip ?_
          refine then_n ?_
          refine r_seq ?_
          refine r_seq ?_
          refine r_items ?_
          refine i_op (a_mov rfl ?_) rfl rfl
          refine i_nil ?_
          refine then_n ?_
          refine r_block ?_
          refine r_loop (fun j e A => ∃ (k : Nat), e = [(1, .pointer (some ⟨b1, 0, none⟩)), (3, .int .i64 (k : Int))] ∧ A = [⟨b1, 25, false, [.int .i64 L, .int .i64 D, .slice a rs.length cap, .slice c ss.length cap2]⟩] ∧ j = rs.length - k ∧ k ≤ rs.length ∧ tabB 0 rs = tabB (prevN 0 rs k) (rs.drop k) ∧ 0 ≤ prevN 0 rs k ∧ prevN 0 rs k ≤ 100000) 90 0 281474976710656 ?_ (j := _) (env2 := _) (A2 := _) ?_ ?_ ?_ ?_ ⟨0, rfl, rfl, rfl, Nat.zero_le _, rfl, (by show 0 ≤ (0 : Int) ∧ (0 : Int) ≤ 100000; omega)⟩
          rotate_left
          · omega
          · omega
          · exact (Less.cons rfl (Less.cons rfl Less.nil))
          · exact (.cons_cons _ .slnil)
          rintro n hn j _ _ ⟨k, rfl, rfl, rfl, hk, hi, hpb⟩
          refine r_seq ?_
          refine r_seq ?_
          refine r_items ?_
          refine i_op (a_mov rfl ?_) rfl rfl
          refine i_op (a_fa rfl ?_) rfl rfl
          refine i_op (a_ld rfl .here rfl ?_) rfl rfl
          refine i_op (a_lenx rfl (by first | exact hR.spot | exact hS.spot) ?_) rfl rfl
          refine i_op (a_lss rfl rfl (fun h6 => ?_) (fun h6 => ?_)) rfl rfl
          · obtain ⟨b, o, l, e, rfl, hr, hat, hl64, he64⟩ := hR.row2 (k := k) (by omega)
            have hat2 := hat
            obtain ⟨d0, d1, _⟩ := hat2
            have := hl64.lo; have := hl64.hi; have := he64.lo; have := he64.hi
            refine i_nil ?_
            refine then_n ?_
            refine r_cond_t rfl ?_
            refine r_skip ?_
            refine then_n ?_
            refine r_seq ?_
            refine r_block ?_
            refine r_seq ?_
            refine r_items ?_
            refine i_op (a_fa rfl ?_) rfl rfl
            refine i_op (a_ld rfl .here rfl ?_) rfl rfl
            refine i_op (a_mov rfl ?_) rfl rfl
            refine i_op (a_ia rfl rfl rfl (by omega) ?_) rfl rfl
            refine i_op (a_ldar rfl (by decide) (by assumption) rfl ?_) rfl rfl
            refine i_op (a_new rfl rfl (fun b7 => ?_)) rfl rfl
            refine i_opn (a_sta rfl rfl .here rfl rfl rfl rfl ?_) rfl
            refine i_nil ?_
            refine then_n ?_
            refine r_seq ?_
            refine r_items ?_
            refine i_op (a_fa rfl ?_) rfl rfl
            refine i_op (a_ld rfl .here rfl ?_) rfl rfl
            refine i_op (a_callB rfl rfl (fun s1 h1 => In_s _ _ _ _ s1 h1.wf) (fun h8 => ?_) (fun h8 => ?_)) rfl rfl
            · refine i_op (a_not rfl ?_) rfl rfl
              refine i_op (a_mov rfl ?_) rfl rfl
              refine i_op (a_fa rfl ?_) rfl rfl
              refine i_op (a_ld rfl .here rfl ?_) rfl rfl
              refine i_op (a_callB rfl rfl (fun s1 h1 => In_s _ _ _ _ s1 h1.wf) (fun h9 => ?_) (fun h9 => ?_)) rfl rfl
              · refine i_op (a_not rfl ?_) rfl rfl
                refine i_op (a_pick_f rfl rfl rfl ?_) rfl rfl
                refine i_op (a_mov rfl ?_) rfl rfl
                refine i_op (a_mov rfl ?_) rfl rfl
                refine i_op (a_gtr rfl rfl (fun h10 => ?_) (fun h10 => ?_)) rfl rfl
                · refine i_op (a_mov rfl ?_) rfl rfl
                  refine i_op (a_fa rfl ?_) rfl rfl
                  refine i_op (a_ld rfl (.next .here) rfl ?_) rfl rfl
                  refine i_op (a_mov rfl ?_) rfl rfl
                  refine i_op (a_sub rfl rfl (by omega) ?_) rfl rfl
                  obtain ⟨b', o', l', e', he', hr', hat', hl64', he64'⟩ := hR.row2 (k := k - 1) (by omega)
                  cases he'
                  obtain ⟨c0, c1, _⟩ := hat'
                  have hp : prevN 0 rs k = l' := by have := prevN_succ (j := 0) hr'; rwa [Nat.sub_add_cancel (by omega)] at this
                  refine i_op (a_ia (j := k - 1) rfl rfl (by omega) (by omega) ?_) rfl rfl
                  refine i_op (a_fa rfl ?_) rfl rfl
                  refine i_op (a_ldr rfl (by assumption) ?_) rfl rfl
                  refine i_op (a_fa rfl ?_) rfl rfl
                  refine i_op (a_ld rfl .here rfl ?_) rfl rfl
                  refine i_op (a_geq rfl rfl (fun h11 => ?_) (fun h11 => ?_)) rfl rfl
                  · refine i_op (a_pick_t rfl rfl rfl ?_) rfl rfl
                    refine i_op (a_pick_f rfl rfl rfl ?_) rfl rfl
                    refine i_nil ?_
                    refine then_n ?_
                    refine r_cond_t rfl ?_
                    refine r_seq ?_
                    refine r_items ?_
                    refine i_op (a_mov rfl ?_) rfl rfl
                    refine i_nil ?_
                    refine then_n ?_
                    refine r_ret ?_
                    refine block_r ?_
                    refine then_r ?_
                    refine then_r ?_
                    refine block_r ?_
                    refine then_r ?_
                    refine end1 rfl ⟨congrArg (Value.int .i64) ?_, rfl⟩
                    first
                      | exact (if_neg (fun h => by obtain ⟨q1, q2, ⟨q3, q4⟩, q5, q6⟩ := h; first | omega | (rw [tab_bad hr hi (by omega)] at q4; exact absurd q4 (by decide)) | (rw [sea_bad hr hi (by omega)] at q6; exact absurd q6 (by decide)))).symm
                      | exact (if_pos ⟨by omega, by omega, ⟨by omega, htab⟩, by omega, sea_end hi (by omega)⟩).symm
                  · refine i_op (a_pick_t rfl rfl rfl ?_) rfl rfl
                    refine i_op (a_pick_f rfl rfl rfl ?_) rfl rfl
                    refine i_nil ?_
                    refine then_n ?_
                    refine r_cond_f rfl ?_
                    refine r_skip ?_
                    refine block_n ?_
                    refine then_n ?_
                    refine r_items ?_
                    refine i_op (a_mov rfl ?_) rfl rfl
                    refine i_op (a_add rfl rfl (by omega) ?_) rfl rfl
                    refine i_op (a_mov rfl ?_) rfl rfl
                    refine i_nil ?_
                    refine then_n ?_
                    exact ⟨rfl, _, _, _, (show rs.length - (k + 1) < rs.length - k by omega), (Less.cons (t := 1) rfl (Less.cons (t := 3) rfl Less.nil)), (.cons _ (.cons_cons _ .slnil)), ⟨k + 1, rfl, rfl, rfl, by omega, tab_good hr hi (by omega), (by rw [prevN_succ hr]; show 0 ≤ l ∧ l ≤ 100000; omega)⟩⟩
                · have hp : prevN 0 rs k = 0 := by
                    have : k = 0 := by omega
                    subst this; rfl
                  refine i_op (a_mov rfl ?_) rfl rfl
                  refine i_no rfl rfl ?_
                  refine i_no rfl rfl ?_
                  refine i_no rfl rfl ?_
                  refine i_no rfl rfl ?_
                  refine i_no rfl rfl ?_
                  refine i_no rfl rfl ?_
                  refine i_no rfl rfl ?_
                  refine i_no rfl rfl ?_
                  refine i_no rfl rfl ?_
                  refine i_no rfl rfl ?_
                  refine i_op (a_pick_f rfl rfl rfl ?_) rfl rfl
                  refine i_op (a_pick_f rfl rfl rfl ?_) rfl rfl
                  refine i_nil ?_
                  refine then_n ?_
                  refine r_cond_f rfl ?_
                  refine r_skip ?_
                  refine block_n ?_
                  refine then_n ?_
                  refine r_items ?_
                  refine i_op (a_mov rfl ?_) rfl rfl
                  refine i_op (a_add rfl rfl (by omega) ?_) rfl rfl
                  refine i_op (a_mov rfl ?_) rfl rfl
                  refine i_nil ?_
                  refine then_n ?_
                  exact ⟨rfl, _, _, _, (show rs.length - (k + 1) < rs.length - k by omega), (Less.cons (t := 1) rfl (Less.cons (t := 3) rfl Less.nil)), (.cons _ (.cons_cons _ .slnil)), ⟨k + 1, rfl, rfl, rfl, by omega, tab_good hr hi (by omega), (by rw [prevN_succ hr]; show 0 ≤ l ∧ l ≤ 100000; omega)⟩⟩
              · refine i_op (a_not rfl ?_) rfl rfl
                refine i_op (a_pick_f rfl rfl rfl ?_) rfl rfl
                refine i_op (a_mov rfl ?_) rfl rfl
                refine i_no rfl rfl ?_
                refine i_no rfl rfl ?_
                refine i_no rfl rfl ?_
                refine i_no rfl rfl ?_
                refine i_no rfl rfl ?_
                refine i_no rfl rfl ?_
                refine i_no rfl rfl ?_
                refine i_no rfl rfl ?_
                refine i_no rfl rfl ?_
                refine i_no rfl rfl ?_
                refine i_no rfl rfl ?_
                refine i_no rfl rfl ?_
                refine i_no rfl rfl ?_
                refine i_no rfl rfl ?_
                refine i_op (a_pick_t rfl rfl rfl ?_) rfl rfl
                refine i_nil ?_
                refine then_n ?_
                refine r_cond_t rfl ?_
                refine r_seq ?_
                refine r_items ?_
                refine i_op (a_mov rfl ?_) rfl rfl
                refine i_nil ?_
                refine then_n ?_
                refine r_ret ?_
                refine block_r ?_
                refine then_r ?_
                refine then_r ?_
                refine block_r ?_
                refine then_r ?_
                refine end1 rfl ⟨congrArg (Value.int .i64) ?_, rfl⟩
                first
                  | exact (if_neg (fun h => by obtain ⟨q1, q2, ⟨q3, q4⟩, q5, q6⟩ := h; first | omega | (rw [tab_bad hr hi (by omega)] at q4; exact absurd q4 (by decide)) | (rw [sea_bad hr hi (by omega)] at q6; exact absurd q6 (by decide)))).symm
                  | exact (if_pos ⟨by omega, by omega, ⟨by omega, htab⟩, by omega, sea_end hi (by omega)⟩).symm
            · refine i_op (a_not rfl ?_) rfl rfl
              refine i_op (a_mov rfl ?_) rfl rfl
              refine i_no rfl rfl ?_
              refine i_no rfl rfl ?_
              refine i_no rfl rfl ?_
              refine i_no rfl rfl ?_
              refine i_op (a_pick_t rfl rfl rfl ?_) rfl rfl
              refine i_op (a_mov rfl ?_) rfl rfl
              refine i_no rfl rfl ?_
              refine i_no rfl rfl ?_
              refine i_no rfl rfl ?_
              refine i_no rfl rfl ?_
              refine i_no rfl rfl ?_
              refine i_no rfl rfl ?_
              refine i_no rfl rfl ?_
              refine i_no rfl rfl ?_
              refine i_no rfl rfl ?_
              refine i_no rfl rfl ?_
              refine i_no rfl rfl ?_
              refine i_no rfl rfl ?_
              refine i_no rfl rfl ?_
              refine i_no rfl rfl ?_
              refine i_op (a_pick_t rfl rfl rfl ?_) rfl rfl
              refine i_nil ?_
              refine then_n ?_
              refine r_cond_t rfl ?_
              refine r_seq ?_
              refine r_items ?_
              refine i_op (a_mov rfl ?_) rfl rfl
              refine i_nil ?_
              refine then_n ?_
              refine r_ret ?_
              refine block_r ?_
              refine then_r ?_
              refine then_r ?_
              refine block_r ?_
              refine then_r ?_
              refine end1 rfl ⟨congrArg (Value.int .i64) ?_, rfl⟩
              first
                | exact (if_neg (fun h => by obtain ⟨q1, q2, ⟨q3, q4⟩, q5, q6⟩ := h; first | omega | (rw [tab_bad hr hi (by omega)] at q4; exact absurd q4 (by decide)) | (rw [sea_bad hr hi (by omega)] at q6; exact absurd q6 (by decide)))).symm
                | exact (if_pos ⟨by omega, by omega, ⟨by omega, htab⟩, by omega, sea_end hi (by omega)⟩).symm
          · have htab := tab_end hi (by omega)
            clear hi hk hpb hn
            refine i_nil ?_
            refine then_n ?_
            refine r_cond_f rfl ?_
            refine r_exit ?_
            refine then_e ?_
            refine then_e ?_
            refine block_hit ?_
            refine then_n ?_
            refine r_seq ?_
            refine r_seq ?_
            refine r_items ?_
            refine i_op (a_mov rfl ?_) rfl rfl
            refine i_nil ?_
            refine then_n ?_
            refine r_block ?_
            refine r_loop (fun j e A => ∃ (k : Nat), e = [(1, .pointer (some ⟨b1, 0, none⟩)), (5, .int .i64 (k : Int))] ∧ A = [⟨b1, 25, false, [.int .i64 L, .int .i64 D, .slice a rs.length cap, .slice c ss.length cap2]⟩] ∧ j = ss.length - k ∧ k ≤ ss.length ∧ seaB ss = seaB (ss.drop k)) 90 0 281474976710656 ?_ (j := _) (env2 := _) (A2 := _) ?_ ?_ ?_ ?_ ⟨0, rfl, rfl, rfl, Nat.zero_le _, rfl⟩
            rotate_left
            · omega
            · omega
            · exact (Less.cons rfl (Less.cons rfl Less.nil))
            · exact (.cons_cons _ .slnil)
            rintro n hn j _ _ ⟨k, rfl, rfl, rfl, hk, hi⟩
            refine r_seq ?_
            refine r_seq ?_
            refine r_items ?_
            refine i_op (a_mov rfl ?_) rfl rfl
            refine i_op (a_fa rfl ?_) rfl rfl
            refine i_op (a_ld rfl .here rfl ?_) rfl rfl
            refine i_op (a_lenx rfl (by first | exact hR.spot | exact hS.spot) ?_) rfl rfl
            refine i_op (a_lss rfl rfl (fun h12 => ?_) (fun h12 => ?_)) rfl rfl
            · obtain ⟨b, o, z, f, t, e, rfl, hr, hat, hz64, hf64, ht64, he64⟩ := hS.row4 (k := k) (by omega)
              have hat2 := hat
              obtain ⟨d0, d1, d2, d3, _⟩ := hat2
              have := hz64.lo; have := hz64.hi; have := hf64.lo; have := hf64.hi; have := ht64.lo; have := ht64.hi; have := he64.lo; have := he64.hi
              refine i_nil ?_
              refine then_n ?_
              refine r_cond_t rfl ?_
              refine r_skip ?_
              refine then_n ?_
              refine r_seq ?_
              refine r_block ?_
              refine r_seq ?_
              refine r_items ?_
              refine i_op (a_fa rfl ?_) rfl rfl
              refine i_op (a_ld rfl .here rfl ?_) rfl rfl
              refine i_op (a_mov rfl ?_) rfl rfl
              refine i_op (a_ia rfl rfl rfl (by omega) ?_) rfl rfl
              refine i_op (a_ldar rfl (by decide) (by assumption) rfl ?_) rfl rfl
              refine i_op (a_new rfl rfl (fun b13 => ?_)) rfl rfl
              refine i_opn (a_sta rfl rfl .here rfl rfl rfl rfl ?_) rfl
              refine i_nil ?_
              refine then_n ?_
              refine r_seq ?_
              refine r_items ?_
              refine i_op (a_fa rfl ?_) rfl rfl
              refine i_op (a_ld rfl .here rfl ?_) rfl rfl
              refine i_op (a_callB rfl rfl (fun s1 h1 => In_s _ _ _ _ s1 h1.wf) (fun h14 => ?_) (fun h14 => ?_)) rfl rfl
              · refine i_op (a_not rfl ?_) rfl rfl
                refine i_op (a_mov rfl ?_) rfl rfl
                refine i_op (a_fa rfl ?_) rfl rfl
                refine i_op (a_ld rfl .here rfl ?_) rfl rfl
                refine i_op (a_callB rfl rfl (fun s1 h1 => In_s _ _ _ _ s1 h1.wf) (fun h15 => ?_) (fun h15 => ?_)) rfl rfl
                · refine i_op (a_not rfl ?_) rfl rfl
                  refine i_op (a_pick_f rfl rfl rfl ?_) rfl rfl
                  refine i_op (a_mov rfl ?_) rfl rfl
                  refine i_op (a_fa rfl ?_) rfl rfl
                  refine i_op (a_ld rfl .here rfl ?_) rfl rfl
                  refine i_op (a_callB rfl rfl (fun s1 h1 => In_s _ _ _ _ s1 h1.wf) (fun h16 => ?_) (fun h16 => ?_)) rfl rfl
                  · refine i_op (a_not rfl ?_) rfl rfl
                    refine i_op (a_pick_f rfl rfl rfl ?_) rfl rfl
                    refine i_op (a_mov rfl ?_) rfl rfl
                    refine i_op (a_fa rfl ?_) rfl rfl
                    refine i_op (a_ld rfl .here rfl ?_) rfl rfl
                    refine i_op (a_callB rfl rfl (fun s1 h1 => In_s _ _ _ _ s1 h1.wf) (fun h17 => ?_) (fun h17 => ?_)) rfl rfl
                    · refine i_op (a_not rfl ?_) rfl rfl
                      refine i_op (a_pick_f rfl rfl rfl ?_) rfl rfl
                      refine i_nil ?_
                      refine then_n ?_
                      refine r_cond_f rfl ?_
                      refine r_skip ?_
                      refine block_n ?_
                      refine then_n ?_
                      refine r_items ?_
                      refine i_op (a_mov rfl ?_) rfl rfl
                      refine i_op (a_add rfl rfl (by omega) ?_) rfl rfl
                      refine i_op (a_mov rfl ?_) rfl rfl
                      refine i_nil ?_
                      refine then_n ?_
                      exact ⟨rfl, _, _, _, (show ss.length - (k + 1) < ss.length - k by omega), (Less.cons (t := 1) rfl (Less.cons (t := 5) rfl Less.nil)), (.cons _ (.cons_cons _ .slnil)), ⟨k + 1, rfl, rfl, rfl, by omega, sea_good hr hi (by omega)⟩⟩
                    · refine i_op (a_not rfl ?_) rfl rfl
                      refine i_op (a_pick_f rfl rfl rfl ?_) rfl rfl
                      refine i_nil ?_
                      refine then_n ?_
                      refine r_cond_t rfl ?_
                      refine r_seq ?_
                      refine r_items ?_
                      refine i_op (a_mov rfl ?_) rfl rfl
                      refine i_nil ?_
                      refine then_n ?_
                      refine r_ret ?_
                      refine block_r ?_
                      refine then_r ?_
                      refine then_r ?_
                      refine block_r ?_
                      refine then_r ?_
                      refine end1 rfl ⟨congrArg (Value.int .i64) ?_, rfl⟩
                      first
                        | exact (if_neg (fun h => by obtain ⟨q1, q2, ⟨q3, q4⟩, q5, q6⟩ := h; first | omega | (rw [tab_bad hr hi (by omega)] at q4; exact absurd q4 (by decide)) | (rw [sea_bad hr hi (by omega)] at q6; exact absurd q6 (by decide)))).symm
                        | exact (if_pos ⟨by omega, by omega, ⟨by omega, htab⟩, by omega, sea_end hi (by omega)⟩).symm
                  · refine i_op (a_not rfl ?_) rfl rfl
                    refine i_op (a_pick_f rfl rfl rfl ?_) rfl rfl
                    refine i_op (a_mov rfl ?_) rfl rfl
                    refine i_no rfl rfl ?_
                    refine i_no rfl rfl ?_
                    refine i_no rfl rfl ?_
                    refine i_no rfl rfl ?_
                    refine i_op (a_pick_t rfl rfl rfl ?_) rfl rfl
                    refine i_nil ?_
                    refine then_n ?_
                    refine r_cond_t rfl ?_
                    refine r_seq ?_
                    refine r_items ?_
                    refine i_op (a_mov rfl ?_) rfl rfl
                    refine i_nil ?_
                    refine then_n ?_
                    refine r_ret ?_
                    refine block_r ?_
                    refine then_r ?_
                    refine then_r ?_
                    refine block_r ?_
                    refine then_r ?_
                    refine end1 rfl ⟨congrArg (Value.int .i64) ?_, rfl⟩
                    first
                      | exact (if_neg (fun h => by obtain ⟨q1, q2, ⟨q3, q4⟩, q5, q6⟩ := h; first | omega | (rw [tab_bad hr hi (by omega)] at q4; exact absurd q4 (by decide)) | (rw [sea_bad hr hi (by omega)] at q6; exact absurd q6 (by decide)))).symm
                      | exact (if_pos ⟨by omega, by omega, ⟨by omega, htab⟩, by omega, sea_end hi (by omega)⟩).symm
                · refine i_op (a_not rfl ?_) rfl rfl
                  refine i_op (a_pick_f rfl rfl rfl ?_) rfl rfl
                  refine i_op (a_mov rfl ?_) rfl rfl
                  refine i_no rfl rfl ?_
                  refine i_no rfl rfl ?_
                  refine i_no rfl rfl ?_
                  refine i_no rfl rfl ?_
                  refine i_op (a_pick_t rfl rfl rfl ?_) rfl rfl
                  refine i_op (a_mov rfl ?_) rfl rfl
                  refine i_no rfl rfl ?_
                  refine i_no rfl rfl ?_
                  refine i_no rfl rfl ?_
                  refine i_no rfl rfl ?_
                  refine i_op (a_pick_t rfl rfl rfl ?_) rfl rfl
                  refine i_nil ?_
                  refine then_n ?_
                  refine r_cond_t rfl ?_
                  refine r_seq ?_
                  refine r_items ?_
                  refine i_op (a_mov rfl ?_) rfl rfl
                  refine i_nil ?_
                  refine then_n ?_
                  refine r_ret ?_
                  refine block_r ?_
                  refine then_r ?_
                  refine then_r ?_
                  refine block_r ?_
                  refine then_r ?_
                  refine end1 rfl ⟨congrArg (Value.int .i64) ?_, rfl⟩
                  first
                    | exact (if_neg (fun h => by obtain ⟨q1, q2, ⟨q3, q4⟩, q5, q6⟩ := h; first | omega | (rw [tab_bad hr hi (by omega)] at q4; exact absurd q4 (by decide)) | (rw [sea_bad hr hi (by omega)] at q6; exact absurd q6 (by decide)))).symm
                    | exact (if_pos ⟨by omega, by omega, ⟨by omega, htab⟩, by omega, sea_end hi (by omega)⟩).symm
              · refine i_op (a_not rfl ?_) rfl rfl
                refine i_op (a_mov rfl ?_) rfl rfl
                refine i_no rfl rfl ?_
                refine i_no rfl rfl ?_
                refine i_no rfl rfl ?_
                refine i_no rfl rfl ?_
                refine i_op (a_pick_t rfl rfl rfl ?_) rfl rfl
                refine i_op (a_mov rfl ?_) rfl rfl
                refine i_no rfl rfl ?_
                refine i_no rfl rfl ?_
                refine i_no rfl rfl ?_
                refine i_no rfl rfl ?_
                refine i_op (a_pick_t rfl rfl rfl ?_) rfl rfl
                refine i_op (a_mov rfl ?_) rfl rfl
                refine i_no rfl rfl ?_
                refine i_no rfl rfl ?_
                refine i_no rfl rfl ?_
                refine i_no rfl rfl ?_
                refine i_op (a_pick_t rfl rfl rfl ?_) rfl rfl
                refine i_nil ?_
                refine then_n ?_
                refine r_cond_t rfl ?_
                refine r_seq ?_
                refine r_items ?_
                refine i_op (a_mov rfl ?_) rfl rfl
                refine i_nil ?_
                refine then_n ?_
                refine r_ret ?_
                refine block_r ?_
                refine then_r ?_
                refine then_r ?_
                refine block_r ?_
                refine then_r ?_
                refine end1 rfl ⟨congrArg (Value.int .i64) ?_, rfl⟩
                first
                  | exact (if_neg (fun h => by obtain ⟨q1, q2, ⟨q3, q4⟩, q5, q6⟩ := h; first | omega | (rw [tab_bad hr hi (by omega)] at q4; exact absurd q4 (by decide)) | (rw [sea_bad hr hi (by omega)] at q6; exact absurd q6 (by decide)))).symm
                  | exact (if_pos ⟨by omega, by omega, ⟨by omega, htab⟩, by omega, sea_end hi (by omega)⟩).symm
            · refine i_nil ?_
              refine then_n ?_
              refine r_cond_f rfl ?_
              refine r_exit ?_
              refine then_e ?_
              refine then_e ?_
              refine block_hit ?_
              refine then_n ?_
              refine r_seq ?_
              refine r_items ?_
              refine i_op (a_mov rfl ?_) rfl rfl
              refine i_nil ?_
              refine then_n ?_
              refine r_ret ?_
              refine end1 rfl ⟨congrArg (Value.int .i64) ?_, rfl⟩
              first
                | exact (if_neg (fun h => by obtain ⟨q1, q2, ⟨q3, q4⟩, q5, q6⟩ := h; first | omega | (rw [tab_bad hr hi (by omega)] at q4; exact absurd q4 (by decide)) | (rw [sea_bad hr hi (by omega)] at q6; exact absurd q6 (by decide)))).symm
                | exact (if_pos ⟨by omega, by omega, ⟨by omega, htab⟩, by omega, sea_end hi (by omega)⟩).symm
      · refine i_op (a_not rfl ?_) rfl rfl
        refine i_op (a_pick_f rfl rfl rfl ?_) rfl rfl
        refine i_op (a_mov rfl ?_) rfl rfl
        refine i_no rfl rfl ?_
        refine i_no rfl rfl ?_
        refine i_no rfl rfl ?_
        refine i_no rfl rfl ?_
        refine i_op (a_pick_t rfl rfl rfl ?_) rfl rfl
        refine i_nil ?_
        refine then_n ?_
        refine r_cond_t rfl ?_
        refine r_seq ?_
        refine r_items ?_
        refine i_op (a_mov rfl ?_) rfl rfl
        refine i_nil ?_
        refine then_n ?_
        refine r_ret ?_
        refine then_r ?_
        refine end1 rfl ⟨congrArg (Value.int .i64) ?_, rfl⟩
        first
          | exact (if_neg (fun h => by obtain ⟨q1, q2, ⟨q3, q4⟩, q5, q6⟩ := h; first | omega | (rw [tab_bad hr hi (by omega)] at q4; exact absurd q4 (by decide)) | (rw [sea_bad hr hi (by omega)] at q6; exact absurd q6 (by decide)))).symm
          | exact (if_pos ⟨by omega, by omega, ⟨by omega, htab⟩, by omega, sea_end hi (by omega)⟩).symm
    · refine i_op (a_not rfl ?_) rfl rfl
      refine i_op (a_pick_f rfl rfl rfl ?_) rfl rfl
      refine i_op (a_mov rfl ?_) rfl rfl
      refine i_no rfl rfl ?_
      refine i_no rfl rfl ?_
      refine i_no rfl rfl ?_
      refine i_no rfl rfl ?_
      refine i_no rfl rfl ?_
      refine i_op (a_pick_t rfl rfl rfl ?_) rfl rfl
      refine i_op (a_mov rfl ?_) rfl rfl
      refine i_no rfl rfl ?_
      refine i_no rfl rfl ?_
      refine i_no rfl rfl ?_
      refine i_no rfl rfl ?_
      refine i_op (a_pick_t rfl rfl rfl ?_) rfl rfl
      refine i_nil ?_
      refine then_n ?_
      refine r_cond_t rfl ?_
      refine r_seq ?_
      refine r_items ?_
      refine i_op (a_mov rfl ?_) rfl rfl
      refine i_nil ?_
      refine then_n ?_
      refine r_ret ?_
      refine then_r ?_
      refine end1 rfl ⟨congrArg (Value.int .i64) ?_, rfl⟩
      first
        | exact (if_neg (fun h => by obtain ⟨q1, q2, ⟨q3, q4⟩, q5, q6⟩ := h; first | omega | (rw [tab_bad hr hi (by omega)] at q4; exact absurd q4 (by decide)) | (rw [sea_bad hr hi (by omega)] at q6; exact absurd q6 (by decide)))).symm
        | exact (if_pos ⟨by omega, by omega, ⟨by omega, htab⟩, by omega, sea_end hi (by omega)⟩).symm
  · refine i_op (a_not rfl ?_) rfl rfl
    refine i_op (a_mov rfl ?_) rfl rfl
    refine i_no rfl rfl ?_
    refine i_no rfl rfl ?_
    refine i_no rfl rfl ?_
    refine i_no rfl rfl ?_
    refine i_op (a_pick_t rfl rfl rfl ?_) rfl rfl
    refine i_op (a_mov rfl ?_) rfl rfl
    refine i_no rfl rfl ?_
    refine i_no rfl rfl ?_
    refine i_no rfl rfl ?_
    refine i_no rfl rfl ?_
    refine i_no rfl rfl ?_
    refine i_op (a_pick_t rfl rfl rfl ?_) rfl rfl
    refine i_op (a_mov rfl ?_) rfl rfl
    refine i_no rfl rfl ?_
    refine i_no rfl rfl ?_
    refine i_no rfl rfl ?_
    refine i_no rfl rfl ?_
    refine i_op (a_pick_t rfl rfl rfl ?_) rfl rfl
    refine i_nil ?_
    refine then_n ?_
    refine r_cond_t rfl ?_
    refine r_seq ?_
    refine r_items ?_
    refine i_op (a_mov rfl ?_) rfl rfl
    refine i_nil ?_
    refine then_n ?_
    refine r_ret ?_
    refine then_r ?_
    refine end1 rfl ⟨congrArg (Value.int .i64) ?_, rfl⟩
    first
      | exact (if_neg (fun h => by obtain ⟨q1, q2, ⟨q3, q4⟩, q5, q6⟩ := h; first | omega | (rw [tab_bad hr hi (by omega)] at q4; exact absurd q4 (by decide)) | (rw [sea_bad hr hi (by omega)] at q6; exact absurd q6 (by decide)))).symm
      | exact (if_pos ⟨by omega, by omega, ⟨by omega, htab⟩, by omega, sea_end hi (by omega)⟩).symm

end
end Ev
end Go.Proofs.YtgbfnonfecpajaaGreat

/- The law about lines and routes, by the evaluator. -/
namespace Go.Proofs.YtgbfnonfecpajaaGreat
open Go Go.RowKit
namespace Ev
theorem MarkChecks_s (n : Nat) (L D : Int) (a c a7 : Option Addr) (cap cap2 cap7 : Nat) (rs ss qs : List (List Int)) (s : St) (hs : Wf s) (hn : 281474976710656 ≤ n) (hR : RowsE s 2 a rs) (hS : RowsE s 4 c ss) (hQ : RowsE s 7 a7 qs) : Spec Tryz.prog (tabK tabm) (knownX 6) (n + 500) 3 [.agg ⟨[.int .i64 L, .int .i64 D, .slice a rs.length cap, .slice c ss.length cap2]⟩, .agg ⟨[.slice a7 qs.length cap7]⟩] s (fun v A => v = .bool true ∧ A = []) := by
  refine enter bm3_at rfl hs ?_
  unfold bm3
  refine r_seq ?_
  refine r_items ?_
  refine i_op (a_box rfl rfl rfl (fun b1 => ?_)) rfl rfl
  refine i_op (a_box rfl rfl rfl (fun b2 => ?_)) rfl rfl
  refine i_op (a_mov rfl ?_) rfl rfl
  refine i_nil ?_
  refine then_n ?_
  refine r_seq ?_
  refine r_items ?_
  refine i_op (a_callV rfl rfl (fun s1 h1 => known_s _ s1 h1.wf) ?_) rfl rfl
  refine i_op (a_mov rfl ?_) rfl rfl
  refine i_nil ?_
  refine then_n ?_
  refine r_seq ?_
  refine r_items ?_
  refine i_op (a_mov rfl ?_) rfl rfl
  refine i_op (a_mov rfl ?_) rfl rfl
  refine i_op (a_lda rfl (by decide) (.next .here) rfl ?_) rfl rfl
  refine i_op (a_lda rfl (by decide) (.next .here) rfl ?_) rfl rfl
  refine i_op (a_callE rfl rfl (fun s1 h1 => CheckLines_s _ _ _ _ _ _ _ _ _ s1 h1.wf (by omega) (hR.ext hs h1.2.1) (hS.ext hs h1.2.1)) (fun h3 => ?_) (fun h3 => ?_)) rfl rfl
  · refine i_opn (a_againa rfl rfl (by decide) (.next .here) rfl (by simp [eqL, eqV, eqA, kindEq, intEq_eq, eqV_sl hR.spot, eqV_sl hS.spot, eqV_sl hQ.spot]) ?_) rfl
    refine i_op (a_callE rfl rfl (fun s1 h1 => rCheckLines_s _ _ _ _ _ _ _ _ _ s1 h1.wf (by omega) (hR.ext hs h1.2.1) (hS.ext hs h1.2.1)) (fun h4 => ?_) (fun h4 => ?_)) rfl rfl
    · refine i_op (a_eql rfl rfl (fun _ => ?_) (fun h => absurd h (by decide))) rfl rfl
      refine i_op (a_pick_t rfl rfl rfl ?_) rfl rfl
      refine i_op (a_mov rfl ?_) rfl rfl
      refine i_op (a_lda rfl (by decide) .here rfl ?_) rfl rfl
      refine i_op (a_lda rfl (by decide) .here rfl ?_) rfl rfl
      refine i_op (a_callE rfl rfl (fun s1 h1 => CheckRoute_s _ _ _ _ s1 h1.wf (by omega) (hQ.ext hs h1.2.1)) (fun h6 => ?_) (fun h6 => ?_)) rfl rfl
      · refine i_opn (a_againa rfl rfl (by decide) .here rfl (by simp [eqL, eqV, eqA, kindEq, intEq_eq, eqV_sl hR.spot, eqV_sl hS.spot, eqV_sl hQ.spot]) ?_) rfl
        refine i_op (a_callE rfl rfl (fun s1 h1 => rCheckRoute_s _ _ _ _ s1 h1.wf (by omega) (hQ.ext hs h1.2.1)) (fun h7 => ?_) (fun h7 => ?_)) rfl rfl
        · refine i_op (a_eql rfl rfl (fun _ => ?_) (fun h => absurd h (by decide))) rfl rfl
          refine i_op (a_pick_t rfl rfl rfl ?_) rfl rfl
          refine i_op (a_mov rfl ?_) rfl rfl
          refine i_nil ?_
          refine then_n ?_
          refine r_ret ?_
          first
            | exact end1 rfl ⟨rfl, rfl⟩
            | (exfalso; omega)
            | (exfalso; contradiction)
        · refine i_op (a_eql rfl rfl (fun h => absurd h (by decide)) (fun _ => ?_)) rfl rfl
          refine i_op (a_pick_t rfl rfl rfl ?_) rfl rfl
          refine i_op (a_mov rfl ?_) rfl rfl
          refine i_nil ?_
          refine then_n ?_
          refine r_ret ?_
          first
            | exact end1 rfl ⟨rfl, rfl⟩
            | (exfalso; omega)
            | (exfalso; contradiction)
      · refine i_opn (a_againa rfl rfl (by decide) .here rfl (by simp [eqL, eqV, eqA, kindEq, intEq_eq, eqV_sl hR.spot, eqV_sl hS.spot, eqV_sl hQ.spot]) ?_) rfl
        refine i_op (a_callE rfl rfl (fun s1 h1 => rCheckRoute_s _ _ _ _ s1 h1.wf (by omega) (hQ.ext hs h1.2.1)) (fun h10 => ?_) (fun h10 => ?_)) rfl rfl
        · refine i_op (a_eql rfl rfl (fun h => absurd h (by decide)) (fun _ => ?_)) rfl rfl
          refine i_op (a_pick_t rfl rfl rfl ?_) rfl rfl
          refine i_op (a_mov rfl ?_) rfl rfl
          refine i_nil ?_
          refine then_n ?_
          refine r_ret ?_
          first
            | exact end1 rfl ⟨rfl, rfl⟩
            | (exfalso; omega)
            | (exfalso; contradiction)
        · refine i_op (a_eql rfl rfl (fun _ => ?_) (fun h => absurd h (by decide))) rfl rfl
          refine i_op (a_pick_t rfl rfl rfl ?_) rfl rfl
          refine i_op (a_mov rfl ?_) rfl rfl
          refine i_nil ?_
          refine then_n ?_
          refine r_ret ?_
          first
            | exact end1 rfl ⟨rfl, rfl⟩
            | (exfalso; omega)
            | (exfalso; contradiction)
    · refine i_op (a_eql rfl rfl (fun h => absurd h (by decide)) (fun _ => ?_)) rfl rfl
      refine i_op (a_pick_t rfl rfl rfl ?_) rfl rfl
      refine i_op (a_mov rfl ?_) rfl rfl
      refine i_no rfl rfl ?_
      refine i_no rfl rfl ?_
      refine i_no rfl rfl ?_
      refine i_non rfl ?_
      refine i_no rfl rfl ?_
      refine i_no rfl rfl ?_
      refine i_op (a_pick_f rfl rfl rfl ?_) rfl rfl
      refine i_op (a_mov rfl ?_) rfl rfl
      refine i_nil ?_
      refine then_n ?_
      refine r_ret ?_
      first
        | exact end1 rfl ⟨rfl, rfl⟩
        | (exfalso; omega)
        | (exfalso; contradiction)
  · refine i_opn (a_againa rfl rfl (by decide) (.next .here) rfl (by simp [eqL, eqV, eqA, kindEq, intEq_eq, eqV_sl hR.spot, eqV_sl hS.spot, eqV_sl hQ.spot]) ?_) rfl
    refine i_op (a_callE rfl rfl (fun s1 h1 => rCheckLines_s _ _ _ _ _ _ _ _ _ s1 h1.wf (by omega) (hR.ext hs h1.2.1) (hS.ext hs h1.2.1)) (fun h14 => ?_) (fun h14 => ?_)) rfl rfl
    · refine i_op (a_eql rfl rfl (fun h => absurd h (by decide)) (fun _ => ?_)) rfl rfl
      refine i_op (a_pick_t rfl rfl rfl ?_) rfl rfl
      refine i_op (a_mov rfl ?_) rfl rfl
      refine i_no rfl rfl ?_
      refine i_no rfl rfl ?_
      refine i_no rfl rfl ?_
      refine i_non rfl ?_
      refine i_no rfl rfl ?_
      refine i_no rfl rfl ?_
      refine i_op (a_pick_f rfl rfl rfl ?_) rfl rfl
      refine i_op (a_mov rfl ?_) rfl rfl
      refine i_nil ?_
      refine then_n ?_
      refine r_ret ?_
      first
        | exact end1 rfl ⟨rfl, rfl⟩
        | (exfalso; omega)
        | (exfalso; contradiction)
    · refine i_op (a_eql rfl rfl (fun _ => ?_) (fun h => absurd h (by decide))) rfl rfl
      refine i_op (a_pick_t rfl rfl rfl ?_) rfl rfl
      refine i_op (a_mov rfl ?_) rfl rfl
      refine i_op (a_lda rfl (by decide) .here rfl ?_) rfl rfl
      refine i_op (a_lda rfl (by decide) .here rfl ?_) rfl rfl
      refine i_op (a_callE rfl rfl (fun s1 h1 => CheckRoute_s _ _ _ _ s1 h1.wf (by omega) (hQ.ext hs h1.2.1)) (fun h17 => ?_) (fun h17 => ?_)) rfl rfl
      · refine i_opn (a_againa rfl rfl (by decide) .here rfl (by simp [eqL, eqV, eqA, kindEq, intEq_eq, eqV_sl hR.spot, eqV_sl hS.spot, eqV_sl hQ.spot]) ?_) rfl
        refine i_op (a_callE rfl rfl (fun s1 h1 => rCheckRoute_s _ _ _ _ s1 h1.wf (by omega) (hQ.ext hs h1.2.1)) (fun h18 => ?_) (fun h18 => ?_)) rfl rfl
        · refine i_op (a_eql rfl rfl (fun _ => ?_) (fun h => absurd h (by decide))) rfl rfl
          refine i_op (a_pick_t rfl rfl rfl ?_) rfl rfl
          refine i_op (a_mov rfl ?_) rfl rfl
          refine i_nil ?_
          refine then_n ?_
          refine r_ret ?_
          first
            | exact end1 rfl ⟨rfl, rfl⟩
            | (exfalso; omega)
            | (exfalso; contradiction)
        · refine i_op (a_eql rfl rfl (fun h => absurd h (by decide)) (fun _ => ?_)) rfl rfl
          refine i_op (a_pick_t rfl rfl rfl ?_) rfl rfl
          refine i_op (a_mov rfl ?_) rfl rfl
          refine i_nil ?_
          refine then_n ?_
          refine r_ret ?_
          first
            | exact end1 rfl ⟨rfl, rfl⟩
            | (exfalso; omega)
            | (exfalso; contradiction)
      · refine i_opn (a_againa rfl rfl (by decide) .here rfl (by simp [eqL, eqV, eqA, kindEq, intEq_eq, eqV_sl hR.spot, eqV_sl hS.spot, eqV_sl hQ.spot]) ?_) rfl
        refine i_op (a_callE rfl rfl (fun s1 h1 => rCheckRoute_s _ _ _ _ s1 h1.wf (by omega) (hQ.ext hs h1.2.1)) (fun h21 => ?_) (fun h21 => ?_)) rfl rfl
        · refine i_op (a_eql rfl rfl (fun h => absurd h (by decide)) (fun _ => ?_)) rfl rfl
          refine i_op (a_pick_t rfl rfl rfl ?_) rfl rfl
          refine i_op (a_mov rfl ?_) rfl rfl
          refine i_nil ?_
          refine then_n ?_
          refine r_ret ?_
          first
            | exact end1 rfl ⟨rfl, rfl⟩
            | (exfalso; omega)
            | (exfalso; contradiction)
        · refine i_op (a_eql rfl rfl (fun _ => ?_) (fun h => absurd h (by decide))) rfl rfl
          refine i_op (a_pick_t rfl rfl rfl ?_) rfl rfl
          refine i_op (a_mov rfl ?_) rfl rfl
          refine i_nil ?_
          refine then_n ?_
          refine r_ret ?_
          first
            | exact end1 rfl ⟨rfl, rfl⟩
            | (exfalso; omega)
            | (exfalso; contradiction)

end Ev
end Go.Proofs.YtgbfnonfecpajaaGreat
