import Derived.Test.YtgbfnonfecpajaaGreatZd06
set_option linter.unusedVariables false
set_option linter.unusedSimpArgs false
/- Contracts, by the evaluator: seasons, quotients. -/
namespace Go.Proofs.YtgbfnonfecpajaaGreat
open Go Go.RowKit
namespace Ev
theorem tdiv_neg {n d : Int} (hd : 0 < d) (h : n.tmod d < 0) : n.tdiv d - 1 = n / d := by
  have h1 := Int.tmod_add_mul_tdiv n d
  have h2 := Int.emod_add_mul_ediv n d
  have h3 := Int.emod_nonneg n (show d ≠ 0 by omega)
  have h4 := Int.emod_lt_of_pos n hd
  have h5 := Int.lt_tmod_of_pos n hd
  have : d * (n.tdiv d - 1 - n / d) = n % d - n.tmod d - d := by
    rw [Int.mul_sub, Int.mul_sub]; omega
  have h6 : d * (n.tdiv d - 1 - n / d) < d * 1 := by omega
  have h7 : d * (-1) < d * (n.tdiv d - 1 - n / d) := by omega
  have h8 := Int.lt_of_mul_lt_mul_left h6 (by omega)
  have h9 := Int.lt_of_mul_lt_mul_left h7 (by omega)
  omega

theorem tdiv_pos {n d : Int} (hd : 0 < d) (h : 0 ≤ n.tmod d) : n.tdiv d = n / d := by
  have h1 := Int.tmod_add_mul_tdiv n d
  have h2 := Int.emod_add_mul_ediv n d
  have h3 := Int.emod_nonneg n (show d ≠ 0 by omega)
  have h4 := Int.emod_lt_of_pos n hd
  have h5 := Int.tmod_lt_of_pos n hd
  have : d * (n.tdiv d - n / d) = n % d - n.tmod d := by
    rw [Int.mul_sub]; omega
  have h6 : d * (n.tdiv d - n / d) < d * 1 := by omega
  have h7 : d * (-1) < d * (n.tdiv d - n / d) := by omega
  have h8 := Int.lt_of_mul_lt_mul_left h6 (by omega)
  have h9 := Int.lt_of_mul_lt_mul_left h7 (by omega)
  omega

theorem tdiv_bd {n d : Int} (hd : 0 < d) : (0 ≤ n → 0 ≤ n.tdiv d ∧ n.tdiv d ≤ n) ∧ (n ≤ 0 → n ≤ n.tdiv d ∧ n.tdiv d ≤ 0) := by
  constructor
  · intro h
    exact ⟨Int.tdiv_nonneg h (by omega), by rw [Int.tdiv_eq_ediv_of_nonneg h]; exact Int.ediv_le_self _ h⟩
  · intro h
    have e : n.tdiv d = -((-n).tdiv d) := by rw [Int.neg_tdiv]; omega
    have h1 := Int.tdiv_nonneg (show 0 ≤ -n by omega) (show 0 ≤ d by omega)
    have h2 : (-n).tdiv d ≤ -n := by rw [Int.tdiv_eq_ediv_of_nonneg (by omega)]; exact Int.ediv_le_self _ (by omega)
    omega

theorem conv_u {z : Int} {m : Nat} (hz : z = (m : Int)) (hm : m < 9223372036854775808) : ev1 Tryz.prog (convert 3 124) (.int .i64 z) = some (.int .u64 (m : Int)) := by
  have h1 : ∀ z : Int, ev1 Tryz.prog (convert 3 124) (.int .i64 z) = some (.int .u64 (IntKind.u64.wrap z)) := fun z => by kernel_rfl
  rw [h1, hz, IntWalk.u64_in _ (by omega)]
theorem conv_i {m : Nat} (hm : m < 9223372036854775808) : ev1 Tryz.prog (convert 124 3) (.int .u64 (m : Int)) = some (.int .i64 (m : Int)) := by
  have h1 : ∀ z : Int, ev1 Tryz.prog (convert 124 3) (.int .u64 z) = some (.int .i64 (IntKind.i64.wrap z)) := fun z => by kernel_rfl
  rw [h1, IntWalk.i64_in _ (by omega)]
theorem shr1 {m : Nat} : evBin Tryz.prog .shr 124 0 (.int .u64 (m : Int)) (.int .u64 1) = some (.int .u64 ((m / 2 : Nat) : Int)) := by
  have h1 : ∀ z : Int, evBin Tryz.prog .shr 124 0 (.int .u64 z) (.int .u64 1) = some (.int .u64 (z.fdiv (2 ^ 1))) := fun z => by kernel_rfl
  rw [h1]
  congr 2
  show (m : Int).fdiv 2 = _
  rw [Int.fdiv_eq_ediv_of_nonneg _ (by omega)]; omega
/-- The first row that is as long, or longer. -/
def IsFst (L : Int) (rs : List (List Int)) (i : Nat) : Prop := i ≤ rs.length ∧ (∀ j, j < i → (rs.getD j []).getD 0 0 < L) ∧ (i < rs.length → L ≤ (rs.getD i []).getD 0 0)
theorem IsFst.uniq {L : Int} {rs : List (List Int)} {i j : Nat} (h : IsFst L rs i) (k : IsFst L rs j) : i = j := by
  rcases Nat.lt_trichotomy i j with h1 | h1 | h1
  · have := k.2.1 i h1; have := h.2.2 (by have := k.1; omega); omega
  · exact h1
  · have := h.2.1 j h1; have := k.2.2 (by have := h.1; omega); omega
/-- Lengths rise. -/
theorem tab_rise : ∀ {rs : List (List Int)} {b : Int}, tabB b rs = true → ∀ {i j : Nat}, i < j → j < rs.length → (rs.getD i []).getD 0 0 < (rs.getD j []).getD 0 0
  | [], _, _, i, j, _, hj => by simp at hj
  | r :: rs, b, h, i, j, hij, hj => by
    have first : ∀ {rs : List (List Int)} {b : Int}, tabB b rs = true → ∀ {j : Nat}, j < rs.length → b < (rs.getD j []).getD 0 0 := by
      intro rs
      induction rs with
      | nil => intro b h j hj; simp at hj
      | cons r rs ih =>
        intro b h j hj
        match r, h with
        | [l, e], h =>
          simp only [tabB, Bool.and_eq_true] at h
          have h1 := of_decide_eq_true h.1
          cases j with
          | zero => show b < l; omega
          | succ j => have := ih h.2 (j := j) (by simpa using hj); simp at this ⊢; omega
        | [], h => simp [tabB] at h
        | [_], h => simp [tabB] at h
        | _ :: _ :: _ :: _, h => simp [tabB] at h
    match r, h with
    | [l, e], h =>
      simp only [tabB, Bool.and_eq_true] at h
      obtain ⟨j', rfl⟩ : ∃ j', j = j' + 1 := ⟨j - 1, by omega⟩
      cases i with
      | zero => have := first h.2 (j := j') (by simpa using hj); simp at this ⊢; omega
      | succ i => have := tab_rise h.2 (i := i) (j := j') (by omega) (by simpa using hj); simpa using this
    | [], h => simp [tabB] at h
    | [_], h => simp [tabB] at h
    | _ :: _ :: _ :: _, h => simp [tabB] at h
theorem tab_row : ∀ {rs : List (List Int)} {b : Int}, tabB b rs = true → -1 ≤ b → ∀ {k : Nat} {l e : Int}, rs[k]? = some [l, e] → (0 ≤ l ∧ l ≤ 100000) ∧ (0 ≤ e ∧ e ≤ 5000)
  | [], _, _, _, k, l, e, h => by simp at h
  | r :: rs, b, hr, hb, k, l, e, h => by
    match r, hr with
    | [l', e'], hr =>
      simp only [tabB, Bool.and_eq_true] at hr
      have h1 := of_decide_eq_true hr.1
      cases k with
      | zero =>
        simp at h
        obtain ⟨rfl, rfl⟩ := h
        omega
      | succ k => exact tab_row hr.2 (by omega) (by simpa using h)
    | [], hr => simp [tabB] at hr
    | [_], hr => simp [tabB] at hr
    | _ :: _ :: _ :: _, hr => simp [tabB] at hr
def fbV (L : Int) (rs : List (List Int)) (i : Nat) : Int :=
  if i = rs.length then 0 else if (rs.getD i []).getD 0 0 = L then (rs.getD i []).getD 1 0 else if i = 0 then 0
  else -((-((rs.getD (i - 1) []).getD 1 0 * ((rs.getD i []).getD 0 0 - L) + (rs.getD i []).getD 1 0 * (L - (rs.getD (i - 1) []).getD 0 0))) / ((rs.getD i []).getD 0 0 - (rs.getD (i - 1) []).getD 0 0))
def fbE (L : Int) (rs : List (List Int)) (i : Nat) : Int := if i = rs.length then 3 else if (rs.getD i []).getD 0 0 = L then 0 else if i = 0 then 3 else 0
theorem getD_of {rs : List (List Int)} {i : Nat} {r : List Int} (h : rs[i]? = some r) : rs.getD i [] = r := by simp [List.getD_eq_getElem?_getD, h]
theorem mul_bd {x y X Y : Int} (h1 : 0 ≤ x) (h2 : x ≤ X) (h3 : 0 ≤ y) (h4 : y ≤ Y) : 0 ≤ x * y ∧ x * y ≤ X * Y :=
  ⟨Int.mul_nonneg h1 h3, Int.mul_le_mul h2 h4 h3 (by omega)⟩
theorem ceil_eq {n d : Int} (hd : 0 < d) (hn : 0 ≤ n) : (n + d - 1).tdiv d = -((-n) / d) := by
  rw [Int.tdiv_eq_ediv_of_nonneg (by omega)]
  have h1 := Int.emod_add_mul_ediv (-n) d
  have h2 := Int.emod_nonneg (-n) (show d ≠ 0 by omega)
  have h3 := Int.emod_lt_of_pos (-n) hd
  have h4 : d * -((-n) / d) = n + (-n) % d := by rw [Int.mul_neg]; omega
  refine (Int.ediv_emod_unique hd (r := n + d - 1 - d * -((-n) / d))).2 ⟨?_, ?_, ?_⟩ |>.1
  · omega
  · omega
  · omega
def extV (zone d : Int) : Int → List (List Int) → Int
  | m, [] => m
  | m, [z, f, t, e] :: rs => extV zone d (if z = zone ∧ ((f ≤ t ∧ f ≤ 1 + d.tmod 365 ∧ 1 + d.tmod 365 ≤ t) ∨ (t < f ∧ (f ≤ 1 + d.tmod 365 ∨ 1 + d.tmod 365 ≤ t))) then max m e else m) rs
  | m, _ :: rs => extV zone d m rs
theorem ext_step {zone d m : Int} {rs : List (List Int)} {k : Nat} {z f t e : Int} (h : rs[k]? = some [z, f, t, e]) : extV zone d m (rs.drop k) = extV zone d (if z = zone ∧ ((f ≤ t ∧ f ≤ 1 + d.tmod 365 ∧ 1 + d.tmod 365 ≤ t) ∨ (t < f ∧ (f ≤ 1 + d.tmod 365 ∨ 1 + d.tmod 365 ≤ t))) then max m e else m) (rs.drop (k + 1)) := by
  obtain ⟨hk, he⟩ := List.getElem?_eq_some_iff.1 h
  rw [List.drop_eq_getElem_cons hk, he]; rfl
theorem sea_row : ∀ {rs : List (List Int)}, seaB rs = true → ∀ {k : Nat} {z f t e : Int}, rs[k]? = some [z, f, t, e] → (1 ≤ z ∧ z ≤ 20) ∧ (1 ≤ f ∧ f ≤ 365) ∧ (1 ≤ t ∧ t ≤ 365) ∧ (0 ≤ e ∧ e ≤ 5000)
  | [], _, k, z, f, t, e, h => by simp at h
  | r :: rs, hr, k, z, f, t, e, h => by
    match r, hr with
    | [z', f', t', e'], hr =>
      simp only [seaB, Bool.and_eq_true] at hr
      cases k with
      | zero =>
        simp at h
        obtain ⟨rfl, rfl, rfl, rfl⟩ := h
        exact of_decide_eq_true hr.1
      | succ k => exact sea_row hr.2 (by simpa using h)
    | [], hr => simp [seaB] at hr
    | [_], hr => simp [seaB] at hr
    | [_, _], hr => simp [seaB] at hr
    | [_, _, _], hr => simp [seaB] at hr
    | _ :: _ :: _ :: _ :: _ :: _, hr => simp [seaB] at hr

section
variable {X : FuncId → List Value → St → (Value → St → Bool) → Bool}
theorem floor_s (n : Nat) (a b : Int) (s : St) (hs : Wf s) (hb : 0 < b) (ha : -4611686018427387904 ≤ a ∧ a ≤ 4611686018427387904) : Spec Tryz.prog (tabK tabm) X (n + 30) 71 [.int .i64 a, .int .i64 b] s (fun v A => v = .int .i64 (a / b) ∧ A = []) := by
  refine enter bm71_at rfl hs ?_
  unfold bm71
  have ht := tdiv_bd (n := a) hb
  refine r_seq ?_
  refine r_items ?_
  refine i_op (a_mov rfl ?_) rfl rfl
  refine i_nil ?_
  refine then_n ?_
  refine r_seq ?_
  refine r_items ?_
  refine i_op (a_mov rfl ?_) rfl rfl
  refine i_op (a_mov rfl ?_) rfl rfl
  refine i_op (a_quo rfl rfl (by omega) (by omega) ?_) rfl rfl
  refine i_op (a_mov rfl ?_) rfl rfl
  refine i_nil ?_
  refine then_n ?_
  refine r_seq ?_
  refine r_seq ?_
  refine r_items ?_
  refine i_op (a_mov rfl ?_) rfl rfl
  refine i_op (a_mov rfl ?_) rfl rfl
  refine i_op (a_rem rfl rfl (by omega) ?_) rfl rfl
  refine i_op (a_lss rfl rfl (fun h1 => ?_) (fun h1 => ?_)) rfl rfl
  · refine i_nil ?_
    refine then_n ?_
    refine r_cond_t rfl ?_
    refine r_items ?_
    refine i_op (a_mov rfl ?_) rfl rfl
    refine i_op (a_sub rfl rfl (by omega) ?_) rfl rfl
    refine i_op (a_mov rfl ?_) rfl rfl
    refine i_nil ?_
    refine then_n ?_
    refine r_seq ?_
    refine r_items ?_
    refine i_op (a_mov rfl ?_) rfl rfl
    refine i_op (a_mov rfl ?_) rfl rfl
    refine i_nil ?_
    refine then_n ?_
    refine r_ret ?_
    refine end1 rfl ⟨congrArg (Value.int .i64) ?_, rfl⟩
    first | exact tdiv_neg hb (by assumption) | exact tdiv_pos hb (by omega)
  · refine i_nil ?_
    refine then_n ?_
    refine r_cond_f rfl ?_
    refine r_skip ?_
    refine then_n ?_
    refine r_seq ?_
    refine r_items ?_
    refine i_op (a_mov rfl ?_) rfl rfl
    refine i_op (a_mov rfl ?_) rfl rfl
    refine i_nil ?_
    refine then_n ?_
    refine r_ret ?_
    refine end1 rfl ⟨congrArg (Value.int .i64) ?_, rfl⟩
    first | exact tdiv_neg hb (by assumption) | exact tdiv_pos hb (by omega)

theorem ceil_s (n : Nat) (a b : Int) (s : St) (hs : Wf s) (hb : 0 < b) (ha : -4611686018427387904 ≤ a ∧ a ≤ 4611686018427387904) : Spec Tryz.prog (tabK tabm) X (n + 60) 59 [.int .i64 a, .int .i64 b] s (fun v A => v = .int .i64 (-((-a) / b)) ∧ A = []) := by
  refine enter bm59_at rfl hs ?_
  unfold bm59
  have hq : -4611686018427387904 ≤ (-a) / b ∧ (-a) / b ≤ 4611686018427387904 := by
    rcases Int.le_total 0 a with h | h
    · have h1 : (-a) / b ≤ 0 := Int.ediv_nonpos_of_nonpos_of_neg (by omega) hb
      have h2 : -a ≤ (-a) / b := (Int.le_ediv_iff_mul_le hb).2 (by have := Int.mul_le_mul_of_nonneg_left (show 1 ≤ b by omega) (show 0 ≤ a by omega); rw [Int.neg_mul]; omega)
      omega
    · have h1 := Int.ediv_nonneg (show 0 ≤ -a by omega) (show 0 ≤ b by omega)
      have h2 := Int.ediv_le_self b (show 0 ≤ -a by omega)
      omega
  refine r_seq ?_
  refine r_items ?_
  refine i_op (a_mov rfl ?_) rfl rfl
  refine i_nil ?_
  refine then_n ?_
  refine r_seq ?_
  refine r_items ?_
  refine i_op (a_mov rfl ?_) rfl rfl
  refine i_op (a_neg rfl (by omega) ?_) rfl rfl
  refine i_op (a_mov rfl ?_) rfl rfl
  refine i_op (a_callV rfl rfl (fun s1 h1 => floor_s _ _ _ s1 h1.wf (by omega) (by omega)) ?_) rfl rfl
  refine i_op (a_neg rfl (by omega) ?_) rfl rfl
  refine i_op (a_mov rfl ?_) rfl rfl
  refine i_nil ?_
  refine then_n ?_
  refine r_ret ?_
  exact end1 rfl ⟨rfl, rfl⟩

theorem isIn_s (n : Nat) (z f t e d : Int) (s : St) (hs : Wf s) (hd : 0 ≤ d ∧ d ≤ 100000) : Spec Tryz.prog (tabK tabm) X (n + 60) 60 [.agg ⟨[.int .i64 z, .int .i64 f, .int .i64 t, .int .i64 e]⟩, .int .i64 d] s (fun v A => v = .bool (decide (((f ≤ t ∧ f ≤ 1 + d.tmod 365 ∧ 1 + d.tmod 365 ≤ t) ∨ (t < f ∧ (f ≤ 1 + d.tmod 365 ∨ 1 + d.tmod 365 ≤ t))))) ∧ A = []) := by
  refine enter bm60_at rfl hs ?_
  unfold bm60
  have hm : 0 ≤ d.tmod 365 ∧ d.tmod 365 < 365 := ⟨Int.tmod_nonneg _ (by omega), Int.tmod_lt_of_pos _ (by decide)⟩
  refine r_seq ?_
  refine r_items ?_
  refine i_op (a_box rfl rfl rfl (fun b1 => ?_)) rfl rfl
  refine i_op (a_mov rfl ?_) rfl rfl
  refine i_nil ?_
  refine then_n ?_
  refine r_seq ?_
  refine r_items ?_
  refine i_op (a_mov rfl ?_) rfl rfl
  refine i_op (a_rem rfl rfl (by omega) ?_) rfl rfl
  refine i_op (a_add rfl rfl (by omega) ?_) rfl rfl
  refine i_op (a_mov rfl ?_) rfl rfl
  refine i_nil ?_
  refine then_n ?_
  refine r_seq ?_
  refine r_seq ?_
  refine r_items ?_
  refine i_op (a_fa rfl ?_) rfl rfl
  refine i_op (a_ld rfl .here rfl ?_) rfl rfl
  refine i_op (a_fa rfl ?_) rfl rfl
  refine i_op (a_ld rfl .here rfl ?_) rfl rfl
  refine i_op (a_gtr rfl rfl (fun h2 => ?_) (fun h2 => ?_)) rfl rfl
  · refine i_nil ?_
    refine then_n ?_
    refine r_cond_t rfl ?_
    refine r_seq ?_
    refine r_items ?_
    refine i_op (a_mov rfl ?_) rfl rfl
    refine i_op (a_fa rfl ?_) rfl rfl
    refine i_op (a_ld rfl .here rfl ?_) rfl rfl
    refine i_op (a_geq rfl rfl (fun h3 => ?_) (fun h3 => ?_)) rfl rfl
    · refine i_op (a_mov rfl ?_) rfl rfl
      refine i_no rfl rfl ?_
      refine i_no rfl rfl ?_
      refine i_no rfl rfl ?_
      refine i_no rfl rfl ?_
      refine i_op (a_pick_t rfl rfl rfl ?_) rfl rfl
      refine i_op (a_mov rfl ?_) rfl rfl
      refine i_nil ?_
      refine then_n ?_
      refine r_ret ?_
      refine then_r ?_
      refine end1 rfl ⟨congrArg Value.bool ?_, rfl⟩
      first | exact (decide_eq_true (by omega)).symm | exact (decide_eq_false (by omega)).symm
    · refine i_op (a_mov rfl ?_) rfl rfl
      refine i_op (a_mov rfl ?_) rfl rfl
      refine i_op (a_fa rfl ?_) rfl rfl
      refine i_op (a_ld rfl .here rfl ?_) rfl rfl
      refine i_op (a_leq rfl rfl (fun h4 => ?_) (fun h4 => ?_)) rfl rfl
      · refine i_op (a_pick_f rfl rfl rfl ?_) rfl rfl
        refine i_op (a_mov rfl ?_) rfl rfl
        refine i_nil ?_
        refine then_n ?_
        refine r_ret ?_
        refine then_r ?_
        refine end1 rfl ⟨congrArg Value.bool ?_, rfl⟩
        first | exact (decide_eq_true (by omega)).symm | exact (decide_eq_false (by omega)).symm
      · refine i_op (a_pick_f rfl rfl rfl ?_) rfl rfl
        refine i_op (a_mov rfl ?_) rfl rfl
        refine i_nil ?_
        refine then_n ?_
        refine r_ret ?_
        refine then_r ?_
        refine end1 rfl ⟨congrArg Value.bool ?_, rfl⟩
        first | exact (decide_eq_true (by omega)).symm | exact (decide_eq_false (by omega)).symm
  · refine i_nil ?_
    refine then_n ?_
    refine r_cond_f rfl ?_
    refine r_skip ?_
    refine then_n ?_
    refine r_seq ?_
    refine r_items ?_
    refine i_op (a_mov rfl ?_) rfl rfl
    refine i_op (a_fa rfl ?_) rfl rfl
    refine i_op (a_ld rfl .here rfl ?_) rfl rfl
    refine i_op (a_fa rfl ?_) rfl rfl
    refine i_op (a_ld rfl .here rfl ?_) rfl rfl
    refine i_op (a_callB rfl rfl (fun s1 h1 => inside_s _ _ _ _ s1 h1.wf) (fun h5 => ?_) (fun h5 => ?_)) rfl rfl
    · refine i_op (a_mov rfl ?_) rfl rfl
      refine i_nil ?_
      refine then_n ?_
      refine r_ret ?_
      refine end1 rfl ⟨congrArg Value.bool ?_, rfl⟩
      first | exact (decide_eq_true (by omega)).symm | exact (decide_eq_false (by omega)).symm
    · refine i_op (a_mov rfl ?_) rfl rfl
      refine i_nil ?_
      refine then_n ?_
      refine r_ret ?_
      refine end1 rfl ⟨congrArg Value.bool ?_, rfl⟩
      first | exact (decide_eq_true (by omega)).symm | exact (decide_eq_false (by omega)).symm

theorem inSeason_s (n : Nat) (z f t e d : Int) (s : St) (hs : Wf s) (hd : 0 ≤ d ∧ d ≤ 100000) : Spec Tryz.prog (tabK tabm) X (n + 60) 61 [.agg ⟨[.int .i64 z, .int .i64 f, .int .i64 t, .int .i64 e]⟩, .int .i64 d] s (fun v A => v = .bool (decide (((f ≤ t ∧ f ≤ 1 + d.tmod 365 ∧ 1 + d.tmod 365 ≤ t) ∨ (t < f ∧ (f ≤ 1 + d.tmod 365 ∨ 1 + d.tmod 365 ≤ t))))) ∧ A = []) := by
  refine enter bm61_at rfl hs ?_
  unfold bm61
  have hm : 0 ≤ d.tmod 365 ∧ d.tmod 365 < 365 := ⟨Int.tmod_nonneg _ (by omega), Int.tmod_lt_of_pos _ (by decide)⟩
  refine r_seq ?_
  refine r_items ?_
  refine i_op (a_box rfl rfl rfl (fun b1 => ?_)) rfl rfl
  refine i_op (a_mov rfl ?_) rfl rfl
  refine i_nil ?_
  refine then_n ?_
  refine r_seq ?_
  refine r_items ?_
  refine i_op (a_mov rfl ?_) rfl rfl
  refine i_op (a_rem rfl rfl (by omega) ?_) rfl rfl
  refine i_op (a_add rfl rfl (by omega) ?_) rfl rfl
  refine i_op (a_mov rfl ?_) rfl rfl
  refine i_nil ?_
  refine then_n ?_
  refine r_seq ?_
  refine r_seq ?_
  refine r_items ?_
  refine i_op (a_fa rfl ?_) rfl rfl
  refine i_op (a_ld rfl .here rfl ?_) rfl rfl
  refine i_op (a_fa rfl ?_) rfl rfl
  refine i_op (a_ld rfl .here rfl ?_) rfl rfl
  refine i_op (a_leq rfl rfl (fun h2 => ?_) (fun h2 => ?_)) rfl rfl
  · refine i_nil ?_
    refine then_n ?_
    refine r_cond_t rfl ?_
    refine r_seq ?_
    refine r_items ?_
    refine i_op (a_mov rfl ?_) rfl rfl
    refine i_op (a_fa rfl ?_) rfl rfl
    refine i_op (a_ld rfl .here rfl ?_) rfl rfl
    refine i_op (a_fa rfl ?_) rfl rfl
    refine i_op (a_ld rfl .here rfl ?_) rfl rfl
    refine i_op (a_callB rfl rfl (fun s1 h1 => In_s _ _ _ _ s1 h1.wf) (fun h3 => ?_) (fun h3 => ?_)) rfl rfl
    · refine i_op (a_mov rfl ?_) rfl rfl
      refine i_nil ?_
      refine then_n ?_
      refine r_ret ?_
      refine then_r ?_
      refine end1 rfl ⟨congrArg Value.bool ?_, rfl⟩
      first | exact (decide_eq_true (by omega)).symm | exact (decide_eq_false (by omega)).symm
    · refine i_op (a_mov rfl ?_) rfl rfl
      refine i_nil ?_
      refine then_n ?_
      refine r_ret ?_
      refine then_r ?_
      refine end1 rfl ⟨congrArg Value.bool ?_, rfl⟩
      first | exact (decide_eq_true (by omega)).symm | exact (decide_eq_false (by omega)).symm
  · refine i_nil ?_
    refine then_n ?_
    refine r_cond_f rfl ?_
    refine r_skip ?_
    refine then_n ?_
    refine r_seq ?_
    refine r_items ?_
    refine i_op (a_mov rfl ?_) rfl rfl
    refine i_op (a_fa rfl ?_) rfl rfl
    refine i_op (a_ld rfl .here rfl ?_) rfl rfl
    refine i_op (a_geq rfl rfl (fun h4 => ?_) (fun h4 => ?_)) rfl rfl
    · refine i_op (a_mov rfl ?_) rfl rfl
      refine i_no rfl rfl ?_
      refine i_no rfl rfl ?_
      refine i_no rfl rfl ?_
      refine i_no rfl rfl ?_
      refine i_op (a_pick_t rfl rfl rfl ?_) rfl rfl
      refine i_op (a_mov rfl ?_) rfl rfl
      refine i_nil ?_
      refine then_n ?_
      refine r_ret ?_
      refine end1 rfl ⟨congrArg Value.bool ?_, rfl⟩
      first | exact (decide_eq_true (by omega)).symm | exact (decide_eq_false (by omega)).symm
    · refine i_op (a_mov rfl ?_) rfl rfl
      refine i_op (a_mov rfl ?_) rfl rfl
      refine i_op (a_fa rfl ?_) rfl rfl
      refine i_op (a_ld rfl .here rfl ?_) rfl rfl
      refine i_op (a_leq rfl rfl (fun h5 => ?_) (fun h5 => ?_)) rfl rfl
      · refine i_op (a_pick_f rfl rfl rfl ?_) rfl rfl
        refine i_op (a_mov rfl ?_) rfl rfl
        refine i_nil ?_
        refine then_n ?_
        refine r_ret ?_
        refine end1 rfl ⟨congrArg Value.bool ?_, rfl⟩
        first | exact (decide_eq_true (by omega)).symm | exact (decide_eq_false (by omega)).symm
      · refine i_op (a_pick_f rfl rfl rfl ?_) rfl rfl
        refine i_op (a_mov rfl ?_) rfl rfl
        refine i_nil ?_
        refine then_n ?_
        refine r_ret ?_
        refine end1 rfl ⟨congrArg Value.bool ?_, rfl⟩
        first | exact (decide_eq_true (by omega)).symm | exact (decide_eq_false (by omega)).symm

theorem extraOn_s (n : Nat) (L D : Int) (a c : Option Addr) (cap cap2 : Nat) (rs ss : List (List Int)) (zone d : Int) (s : St) (hs : Wf s) (hn : 281474976710656 ≤ n) (hR : RowsE s 2 a rs) (hS : RowsE s 4 c ss) (hsea : seaB ss = true) (hd : 0 ≤ d ∧ d ≤ 100000) : Spec Tryz.prog (tabK tabm) X (n + 150) 35 [.agg ⟨[.int .i64 L, .int .i64 D, .slice a rs.length cap, .slice c ss.length cap2]⟩, .int .i64 zone, .int .i64 d] s (fun v A => v = .int .i64 (extV zone d 0 ss) ∧ A = []) := by
  refine enter bm35_at rfl hs ?_
  unfold bm35
  have hlen := hR.len
  have hlen2 := hS.len
  refine r_seq ?_
  refine r_items ?_
  refine i_op (a_box rfl rfl rfl (fun b1 => ?_)) rfl rfl
  refine i_op (a_mov rfl ?_) rfl rfl
  refine i_nil ?_
  refine then_n ?_
  refine r_seq ?_
  refine r_items ?_
  refine i_op (a_mov rfl ?_) rfl rfl
  refine i_nil ?_
  refine then_n ?_
  refine r_seq ?_
  refine r_seq ?_
  refine r_items ?_
  refine i_op (a_fa rfl ?_) rfl rfl
  refine i_op (a_ld rfl .here rfl ?_) rfl rfl
  refine i_op (a_lenx rfl hS.spot ?_) rfl rfl
  refine i_op (a_mov rfl ?_) rfl rfl
  refine i_nil ?_
  refine then_n ?_
  refine r_block ?_
  refine r_loop (fun j e A => ∃ (k : Nat) (m : Int), e = [(11, .slice c ss.length cap2), (12, .int .i64 (ss.length : Int)), (13, .int .i64 (k : Int)), (7, .int .i64 m), (1, .int .i64 zone), (2, .int .i64 d)] ∧ A = [] ∧ j = ss.length - k ∧ k ≤ ss.length ∧ extV zone d 0 ss = extV zone d m (ss.drop k) ∧ (0 ≤ m ∧ m ≤ 5000)) 110 0 281474976710656 ?_ (j := _) (env2 := _) (A2 := _) ?_ ?_ ?_ ?_ ⟨0, 0, rfl, rfl, rfl, Nat.zero_le _, rfl, (by omega)⟩
  rotate_left
  · omega
  · omega
  · exact (Less.cons rfl (Less.cons rfl (Less.cons rfl (Less.cons rfl (Less.cons rfl (Less.cons rfl Less.nil))))))
  · exact (.cons _ .slnil)
  rintro n hn j _ _ ⟨k, m, rfl, rfl, rfl, hk, hi, hm⟩
  refine r_seq ?_
  refine r_items ?_
  refine i_op (a_lss rfl rfl (fun h2 => ?_) (fun h2 => ?_)) rfl rfl
  · obtain ⟨b, o, z, f, t, e, rfl, hr, hat, hz64, hf64, ht64, he64⟩ := hS.row4 (k := k) (by omega)
    have hat2 := hat
    obtain ⟨d0, d1, d2, d3, _⟩ := hat2
    have := hz64.lo; have := hz64.hi; have := hf64.lo; have := hf64.hi; have := ht64.lo; have := ht64.hi; have := he64.lo; have := he64.hi
    have hsr := sea_row hsea hr
    have hst := ext_step (zone := zone) (d := d) (m := m) hr
    refine i_nil ?_
    refine then_n ?_
    refine r_seq ?_
    refine r_cond_t rfl ?_
    refine r_skip ?_
    refine then_n ?_
    refine r_seq ?_
    refine r_block ?_
    refine r_seq ?_
    refine r_items ?_
    refine i_op (a_ia rfl rfl rfl (by omega) ?_) rfl rfl
    refine i_op (a_ldar rfl (by decide) (by assumption) rfl ?_) rfl rfl
    refine i_op (a_new rfl rfl (fun b3 => ?_)) rfl rfl
    refine i_opn (a_sta rfl rfl .here rfl rfl rfl rfl ?_) rfl
    refine i_nil ?_
    refine then_n ?_
    refine r_seq ?_
    refine r_items ?_
    refine i_op (a_fa rfl ?_) rfl rfl
    refine i_op (a_ld rfl .here rfl ?_) rfl rfl
    refine i_op (a_mov rfl ?_) rfl rfl
    refine i_op (a_eql rfl rfl (fun h4 => ?_) (fun h4 => ?_)) rfl rfl
    · refine i_op (a_mov rfl ?_) rfl rfl
      refine i_op (a_lda rfl (by decide) .here rfl ?_) rfl rfl
      refine i_op (a_mov rfl ?_) rfl rfl
      refine i_op (a_callB rfl rfl (fun s1 h1 => isIn_s _ _ _ _ _ _ s1 h1.wf (by omega)) (fun h5 => ?_) (fun h5 => ?_)) rfl rfl
      · refine i_op (a_pick_t rfl rfl rfl ?_) rfl rfl
        refine i_nil ?_
        refine then_n ?_
        refine r_cond_t rfl ?_
        refine r_items ?_
        refine i_op (a_mov rfl ?_) rfl rfl
        refine i_op (a_fa rfl ?_) rfl rfl
        refine i_op (a_ld rfl .here rfl ?_) rfl rfl
        refine i_op (a_max rfl ?_) rfl rfl
        refine i_op (a_mov rfl ?_) rfl rfl
        refine i_nil ?_
        refine block_n ?_
        refine then_n ?_
        refine r_items ?_
        refine i_op (a_add rfl rfl (by omega) ?_) rfl rfl
        refine i_op (a_mov rfl ?_) rfl rfl
        refine i_nil ?_
        refine then_n ?_
        exact ⟨rfl, _, _, _, (show ss.length - (k + 1) < ss.length - k by omega), (Less.cons (t := 11) rfl (Less.cons (t := 12) rfl (Less.cons (t := 13) rfl (Less.cons (t := 7) rfl (Less.cons (t := 1) rfl (Less.cons (t := 2) rfl Less.nil)))))), (.cons _ .slnil), ⟨k + 1, _, rfl, rfl, rfl, by omega, (by rw [hi, hst]; congr 1; first | rw [if_pos ⟨by assumption, by assumption⟩] | rw [if_neg (fun h => by obtain ⟨u1, u2⟩ := h; contradiction)]), (by omega)⟩⟩
      · refine i_op (a_pick_t rfl rfl rfl ?_) rfl rfl
        refine i_nil ?_
        refine then_n ?_
        refine r_cond_f rfl ?_
        refine r_skip ?_
        refine block_n ?_
        refine then_n ?_
        refine r_items ?_
        refine i_op (a_add rfl rfl (by omega) ?_) rfl rfl
        refine i_op (a_mov rfl ?_) rfl rfl
        refine i_nil ?_
        refine then_n ?_
        exact ⟨rfl, _, _, _, (show ss.length - (k + 1) < ss.length - k by omega), (Less.cons (t := 11) rfl (Less.cons (t := 12) rfl (Less.cons (t := 13) rfl (Less.cons (t := 7) rfl (Less.cons (t := 1) rfl (Less.cons (t := 2) rfl Less.nil)))))), (.cons _ .slnil), ⟨k + 1, _, rfl, rfl, rfl, by omega, (by rw [hi, hst]; congr 1; first | rw [if_pos ⟨by assumption, by assumption⟩] | rw [if_neg (fun h => by obtain ⟨u1, u2⟩ := h; contradiction)]), (by omega)⟩⟩
    · refine i_op (a_mov rfl ?_) rfl rfl
      refine i_no rfl rfl ?_
      refine i_no rfl rfl ?_
      refine i_no rfl rfl ?_
      refine i_op (a_pick_f rfl rfl rfl ?_) rfl rfl
      refine i_nil ?_
      refine then_n ?_
      refine r_cond_f rfl ?_
      refine r_skip ?_
      refine block_n ?_
      refine then_n ?_
      refine r_items ?_
      refine i_op (a_add rfl rfl (by omega) ?_) rfl rfl
      refine i_op (a_mov rfl ?_) rfl rfl
      refine i_nil ?_
      refine then_n ?_
      exact ⟨rfl, _, _, _, (show ss.length - (k + 1) < ss.length - k by omega), (Less.cons (t := 11) rfl (Less.cons (t := 12) rfl (Less.cons (t := 13) rfl (Less.cons (t := 7) rfl (Less.cons (t := 1) rfl (Less.cons (t := 2) rfl Less.nil)))))), (.cons _ .slnil), ⟨k + 1, _, rfl, rfl, rfl, by omega, (by rw [hi, hst]; congr 1; first | rw [if_pos ⟨by assumption, by assumption⟩] | rw [if_neg (fun h => by obtain ⟨u1, u2⟩ := h; contradiction)]), (by omega)⟩⟩
  · refine i_nil ?_
    refine then_n ?_
    refine r_seq ?_
    refine r_cond_f rfl ?_
    refine r_exit ?_
    refine then_e ?_
    refine then_e ?_
    refine block_hit ?_
    refine then_n ?_
    refine r_seq ?_
    refine r_items ?_
    refine i_op (a_mov rfl ?_) rfl rfl
    refine i_op (a_mov rfl ?_) rfl rfl
    refine i_nil ?_
    refine then_n ?_
    refine r_ret ?_
    refine end1 rfl ⟨congrArg (Value.int .i64) ?_, rfl⟩
    rw [hi, List.drop_eq_nil_of_le (by omega)]; rfl

theorem rextra_s (n : Nat) (L D : Int) (a c : Option Addr) (cap cap2 : Nat) (rs ss : List (List Int)) (zone d : Int) (s : St) (hs : Wf s) (hn : 281474976710656 ≤ n) (hR : RowsE s 2 a rs) (hS : RowsE s 4 c ss) (hsea : seaB ss = true) (hd : 0 ≤ d ∧ d ≤ 100000) : Spec Tryz.prog (tabK tabm) X (n + 150) 37 [.agg ⟨[.int .i64 L, .int .i64 D, .slice a rs.length cap, .slice c ss.length cap2]⟩, .int .i64 zone, .int .i64 d] s (fun v A => v = .int .i64 (extV zone d 0 ss) ∧ A = []) := by
  refine enter bm37_at rfl hs ?_
  unfold bm37
  have hlen := hR.len
  have hlen2 := hS.len
  refine r_seq ?_
  refine r_items ?_
  refine i_op (a_box rfl rfl rfl (fun b1 => ?_)) rfl rfl
  refine i_op (a_mov rfl ?_) rfl rfl
  refine i_nil ?_
  refine then_n ?_
  refine r_seq ?_
  refine r_items ?_
  refine i_op (a_mov rfl ?_) rfl rfl
  refine i_nil ?_
  refine then_n ?_
  refine r_seq ?_
  refine r_seq ?_
  refine r_items ?_
  refine i_op (a_mov rfl ?_) rfl rfl
  refine i_nil ?_
  refine then_n ?_
  refine r_block ?_
  refine r_loop (fun j e A => ∃ (k : Nat) (m : Int), e = [(3, .pointer (some ⟨b1, 0, none⟩)), (8, .int .i64 (k : Int)), (7, .int .i64 m), (1, .int .i64 zone), (2, .int .i64 d)] ∧ A = [⟨b1, 25, false, [.int .i64 L, .int .i64 D, .slice a rs.length cap, .slice c ss.length cap2]⟩] ∧ j = ss.length - k ∧ k ≤ ss.length ∧ extV zone d 0 ss = extV zone d m (ss.drop k) ∧ (0 ≤ m ∧ m ≤ 5000)) 110 0 281474976710656 ?_ (j := _) (env2 := _) (A2 := _) ?_ ?_ ?_ ?_ ⟨0, 0, rfl, rfl, rfl, Nat.zero_le _, rfl, (by omega)⟩
  rotate_left
  · omega
  · omega
  · exact (Less.cons rfl (Less.cons rfl (Less.cons rfl (Less.cons rfl (Less.cons rfl Less.nil)))))
  · exact (.cons_cons _ .slnil)
  rintro n hn j _ _ ⟨k, m, rfl, rfl, rfl, hk, hi, hm⟩
  refine r_seq ?_
  refine r_seq ?_
  refine r_items ?_
  refine i_op (a_mov rfl ?_) rfl rfl
  refine i_op (a_fa rfl ?_) rfl rfl
  refine i_op (a_ld rfl .here rfl ?_) rfl rfl
  refine i_op (a_lenx rfl hS.spot ?_) rfl rfl
  refine i_op (a_lss rfl rfl (fun h2 => ?_) (fun h2 => ?_)) rfl rfl
  · obtain ⟨b, o, z, f, t, e, rfl, hr, hat, hz64, hf64, ht64, he64⟩ := hS.row4 (k := k) (by omega)
    have hat2 := hat
    obtain ⟨d0, d1, d2, d3, _⟩ := hat2
    have := hz64.lo; have := hz64.hi; have := hf64.lo; have := hf64.hi; have := ht64.lo; have := ht64.hi; have := he64.lo; have := he64.hi
    have hsr := sea_row hsea hr
    have hst := ext_step (zone := zone) (d := d) (m := m) hr
    refine i_nil ?_
    refine then_n ?_
    refine r_cond_t rfl ?_
    refine r_skip ?_
    refine then_n ?_
    refine r_seq ?_
    refine r_block ?_
    refine r_seq ?_
    refine r_items ?_
    refine i_op (a_fa rfl ?_) rfl rfl
    refine i_op (a_ld rfl .here rfl ?_) rfl rfl
    refine i_op (a_mov rfl ?_) rfl rfl
    refine i_op (a_ia rfl rfl rfl (by omega) ?_) rfl rfl
    refine i_op (a_fa rfl ?_) rfl rfl
    refine i_op (a_ldr rfl (by assumption) ?_) rfl rfl
    refine i_op (a_mov rfl ?_) rfl rfl
    refine i_op (a_eql rfl rfl (fun h3 => ?_) (fun h3 => ?_)) rfl rfl
    · refine i_op (a_mov rfl ?_) rfl rfl
      refine i_op (a_fa rfl ?_) rfl rfl
      refine i_op (a_ld rfl .here rfl ?_) rfl rfl
      refine i_op (a_mov rfl ?_) rfl rfl
      refine i_op (a_ia rfl rfl rfl (by omega) ?_) rfl rfl
      refine i_op (a_ldar rfl (by decide) (by assumption) rfl ?_) rfl rfl
      refine i_op (a_mov rfl ?_) rfl rfl
      refine i_op (a_callB rfl rfl (fun s1 h1 => inSeason_s _ _ _ _ _ _ s1 h1.wf (by omega)) (fun h4 => ?_) (fun h4 => ?_)) rfl rfl
      · refine i_op (a_pick_t rfl rfl rfl ?_) rfl rfl
        refine i_nil ?_
        refine then_n ?_
        refine r_cond_t rfl ?_
        refine r_items ?_
        refine i_op (a_mov rfl ?_) rfl rfl
        refine i_op (a_fa rfl ?_) rfl rfl
        refine i_op (a_ld rfl .here rfl ?_) rfl rfl
        refine i_op (a_mov rfl ?_) rfl rfl
        refine i_op (a_ia rfl rfl rfl (by omega) ?_) rfl rfl
        refine i_op (a_fa rfl ?_) rfl rfl
        refine i_op (a_ldr rfl (by assumption) ?_) rfl rfl
        refine i_op (a_max rfl ?_) rfl rfl
        refine i_op (a_mov rfl ?_) rfl rfl
        refine i_nil ?_
        refine block_n ?_
        refine then_n ?_
        refine r_items ?_
        refine i_op (a_mov rfl ?_) rfl rfl
        refine i_op (a_add rfl rfl (by omega) ?_) rfl rfl
        refine i_op (a_mov rfl ?_) rfl rfl
        refine i_nil ?_
        refine then_n ?_
        exact ⟨rfl, _, _, _, (show ss.length - (k + 1) < ss.length - k by omega), (Less.cons (t := 3) rfl (Less.cons (t := 8) rfl (Less.cons (t := 7) rfl (Less.cons (t := 1) rfl (Less.cons (t := 2) rfl Less.nil))))), (.cons_cons _ .slnil), ⟨k + 1, _, rfl, rfl, rfl, by omega, (by rw [hi, hst]; congr 1; first | rw [if_pos ⟨by assumption, by assumption⟩] | rw [if_neg (fun h => by obtain ⟨u1, u2⟩ := h; contradiction)]), (by omega)⟩⟩
      · refine i_op (a_pick_t rfl rfl rfl ?_) rfl rfl
        refine i_nil ?_
        refine then_n ?_
        refine r_cond_f rfl ?_
        refine r_skip ?_
        refine block_n ?_
        refine then_n ?_
        refine r_items ?_
        refine i_op (a_mov rfl ?_) rfl rfl
        refine i_op (a_add rfl rfl (by omega) ?_) rfl rfl
        refine i_op (a_mov rfl ?_) rfl rfl
        refine i_nil ?_
        refine then_n ?_
        exact ⟨rfl, _, _, _, (show ss.length - (k + 1) < ss.length - k by omega), (Less.cons (t := 3) rfl (Less.cons (t := 8) rfl (Less.cons (t := 7) rfl (Less.cons (t := 1) rfl (Less.cons (t := 2) rfl Less.nil))))), (.cons_cons _ .slnil), ⟨k + 1, _, rfl, rfl, rfl, by omega, (by rw [hi, hst]; congr 1; first | rw [if_pos ⟨by assumption, by assumption⟩] | rw [if_neg (fun h => by obtain ⟨u1, u2⟩ := h; contradiction)]), (by omega)⟩⟩
    · refine i_op (a_mov rfl ?_) rfl rfl
      refine i_no rfl rfl ?_
      refine i_no rfl rfl ?_
      refine i_no rfl rfl ?_
      refine i_no rfl rfl ?_
      refine i_no rfl rfl ?_
      refine i_no rfl rfl ?_
      refine i_no rfl rfl ?_
      refine i_op (a_pick_f rfl rfl rfl ?_) rfl rfl
      refine i_nil ?_
      refine then_n ?_
      refine r_cond_f rfl ?_
      refine r_skip ?_
      refine block_n ?_
      refine then_n ?_
      refine r_items ?_
      refine i_op (a_mov rfl ?_) rfl rfl
      refine i_op (a_add rfl rfl (by omega) ?_) rfl rfl
      refine i_op (a_mov rfl ?_) rfl rfl
      refine i_nil ?_
      refine then_n ?_
      exact ⟨rfl, _, _, _, (show ss.length - (k + 1) < ss.length - k by omega), (Less.cons (t := 3) rfl (Less.cons (t := 8) rfl (Less.cons (t := 7) rfl (Less.cons (t := 1) rfl (Less.cons (t := 2) rfl Less.nil))))), (.cons_cons _ .slnil), ⟨k + 1, _, rfl, rfl, rfl, by omega, (by rw [hi, hst]; congr 1; first | rw [if_pos ⟨by assumption, by assumption⟩] | rw [if_neg (fun h => by obtain ⟨u1, u2⟩ := h; contradiction)]), (by omega)⟩⟩
  · refine i_nil ?_
    refine then_n ?_
    refine r_cond_f rfl ?_
    refine r_exit ?_
    refine then_e ?_
    refine then_e ?_
    refine block_hit ?_
    refine then_n ?_
    refine r_seq ?_
    refine r_items ?_
    refine i_op (a_mov rfl ?_) rfl rfl
    refine i_op (a_mov rfl ?_) rfl rfl
    refine i_nil ?_
    refine then_n ?_
    refine r_ret ?_
    refine end1 rfl ⟨congrArg (Value.int .i64) ?_, rfl⟩
    rw [hi, List.drop_eq_nil_of_le (by omega)]; rfl

end
end Ev
end Go.Proofs.YtgbfnonfecpajaaGreat

/- Contracts, by the evaluator: the library's search. -/
namespace Go.Proofs.YtgbfnonfecpajaaGreat
open Go Go.RowKit
namespace Ev

section
variable {X : FuncId → List Value → St → (Value → St → Bool) → Bool}
theorem Search_s (n : Nat) (N g : Nat) (cs : List Value) (q : Nat → Prop) [DecidablePred q] (s0 s : St) (hs : Wf s) (hn : 281474976710656 ≤ n) (hN : N < 140737488355328) (hx0 : Ext s0 s) (hf : ∀ (n i : Nat), i < N → ∀ s1, Ext s0 s1 → Spec Tryz.prog (tabK tabm) X (n + 100) g (.int .i64 (i : Int) :: cs) s1 (fun v A => v = .bool (decide (q i)) ∧ A = [])) : Spec Tryz.prog (tabK tabm) X (n + 200) 57 [.int .i64 (N : Int), .func (.func g) ⟨[]⟩ ⟨cs⟩] s (fun v A => ∃ i : Nat, i ≤ N ∧ v = .int .i64 (i : Int) ∧ A = [] ∧ (i = 0 ∨ ¬ q (i - 1)) ∧ (i = N ∨ q i)) := by
  refine enter bm57_at rfl hs ?_
  unfold bm57
  refine r_seq ?_
  refine r_items ?_
  refine i_op (a_mov rfl ?_) rfl rfl
  refine i_nil ?_
  refine then_n ?_
  refine r_seq ?_
  refine r_items ?_
  refine i_op (a_mov rfl ?_) rfl rfl
  refine i_op (a_mov rfl ?_) rfl rfl
  refine i_op (a_mov rfl ?_) rfl rfl
  refine i_nil ?_
  refine then_n ?_
  refine r_seq ?_
  refine r_block ?_
  refine r_loop (fun j e A => ∃ (lo hi : Nat), e = [(1, .func (.func g) ⟨[]⟩ ⟨cs⟩), (5, .int .i64 (lo : Int)), (6, .int .i64 (hi : Int))] ∧ A = [] ∧ j = hi - lo ∧ lo ≤ hi ∧ hi ≤ N ∧ (lo = 0 ∨ ¬ q (lo - 1)) ∧ (hi = N ∨ q hi)) 160 0 281474976710656 ?_ (j := _) (env2 := _) (A2 := _) ?_ ?_ ?_ ?_ ⟨0, N, rfl, rfl, rfl, (Nat.zero_le _), (Nat.le_refl _), (.inl rfl), (.inl rfl)⟩
  rotate_left
  · omega
  · omega
  · exact (Less.cons rfl (Less.cons rfl (Less.cons rfl Less.nil)))
  · exact .slnil
  rintro n hn j _ _ ⟨lo, hi, rfl, rfl, rfl, hl, hh, hlo, hhi⟩
  refine r_seq ?_
  refine r_seq ?_
  refine r_items ?_
  refine i_op (a_mov rfl ?_) rfl rfl
  refine i_op (a_mov rfl ?_) rfl rfl
  refine i_op (a_lss rfl rfl (fun h1 => ?_) (fun h1 => ?_)) rfl rfl
  · refine i_nil ?_
    refine then_n ?_
    refine r_cond_t rfl ?_
    refine r_skip ?_
    refine then_n ?_
    refine r_block ?_
    refine r_seq ?_
    refine r_items ?_
    refine i_op (a_mov rfl ?_) rfl rfl
    refine i_op (a_mov rfl ?_) rfl rfl
    refine i_op (a_add rfl rfl (by omega) ?_) rfl rfl
    refine i_op (a_conv (r := .int .u64 ((lo + hi : Nat) : Int)) rfl (conv_u (by omega) (by omega)) ?_) rfl rfl
    refine i_op (a_bin rfl rfl shr1 ?_) rfl rfl
    refine i_op (a_conv rfl (conv_i (by omega)) ?_) rfl rfl
    refine i_op (a_mov rfl ?_) rfl rfl
    refine i_nil ?_
    refine then_n ?_
    refine r_seq ?_
    refine r_items ?_
    refine i_op (a_mov rfl ?_) rfl rfl
    refine i_op (a_mov rfl ?_) rfl rfl
    refine i_op (a_callB rfl rfl (fun s1 h1 => hf _ _ (by omega) s1 (hx0.trans h1.2.1)) (fun h2 => ?_) (fun h2 => ?_)) rfl rfl
    · refine i_op (a_not rfl ?_) rfl rfl
      refine i_nil ?_
      refine then_n ?_
      refine r_cond_f rfl ?_
      refine r_items ?_
      refine i_op (a_mov rfl ?_) rfl rfl
      refine i_op (a_mov rfl ?_) rfl rfl
      refine i_nil ?_
      refine block_n ?_
      refine then_n ?_
      first
        | exact ⟨rfl, _, _, _, (show hi - ((lo + hi) / 2 + 1) < hi - lo by omega), (Less.cons (t := 1) rfl (Less.cons (t := 5) rfl (Less.cons (t := 6) rfl Less.nil))), List.nil_sublist _, ⟨(lo + hi) / 2 + 1, hi, rfl, rfl, rfl, by omega, hh, .inr (by assumption), hhi⟩⟩
        | exact ⟨rfl, _, _, _, (show (lo + hi) / 2 - lo < hi - lo by omega), (Less.cons (t := 1) rfl (Less.cons (t := 5) rfl (Less.cons (t := 6) rfl Less.nil))), List.nil_sublist _, ⟨lo, (lo + hi) / 2, rfl, rfl, rfl, by omega, by omega, hlo, .inr (by assumption)⟩⟩
    · refine i_op (a_not rfl ?_) rfl rfl
      refine i_nil ?_
      refine then_n ?_
      refine r_cond_t rfl ?_
      refine r_items ?_
      refine i_op (a_mov rfl ?_) rfl rfl
      refine i_op (a_add rfl rfl (by omega) ?_) rfl rfl
      refine i_op (a_mov rfl ?_) rfl rfl
      refine i_nil ?_
      refine block_n ?_
      refine then_n ?_
      first
        | exact ⟨rfl, _, _, _, (show hi - ((lo + hi) / 2 + 1) < hi - lo by omega), (Less.cons (t := 1) rfl (Less.cons (t := 5) rfl (Less.cons (t := 6) rfl Less.nil))), List.nil_sublist _, ⟨(lo + hi) / 2 + 1, hi, rfl, rfl, rfl, by omega, hh, .inr (by assumption), hhi⟩⟩
        | exact ⟨rfl, _, _, _, (show (lo + hi) / 2 - lo < hi - lo by omega), (Less.cons (t := 1) rfl (Less.cons (t := 5) rfl (Less.cons (t := 6) rfl Less.nil))), List.nil_sublist _, ⟨lo, (lo + hi) / 2, rfl, rfl, rfl, by omega, by omega, hlo, .inr (by assumption)⟩⟩
  · refine i_nil ?_
    refine then_n ?_
    refine r_cond_f rfl ?_
    refine r_exit ?_
    refine then_e ?_
    refine then_e ?_
    refine block_hit ?_
    refine then_n ?_
    refine r_seq ?_
    refine r_items ?_
    refine i_op (a_mov rfl ?_) rfl rfl
    refine i_op (a_mov rfl ?_) rfl rfl
    refine i_nil ?_
    refine then_n ?_
    refine r_ret ?_
    exact end1 rfl ⟨lo, by omega, rfl, rfl, hlo, (by have e0 : lo = hi := (by omega); rw [e0]; exact hhi)⟩

end
end Ev
end Go.Proofs.YtgbfnonfecpajaaGreat

/- Contracts, by the evaluator: freeboards. -/
namespace Go.Proofs.YtgbfnonfecpajaaGreat
open Go Go.RowKit
namespace Ev
theorem tdiv_rng {a b : Int} (hb : 0 < b) (ha : -4611686018427387904 ≤ a ∧ a ≤ 4611686018427387904) : -9223372036854775808 ≤ a.tdiv b ∧ a.tdiv b < 9223372036854775808 := by
  have := tdiv_bd (n := a) hb; omega
theorem fst_of {L : Int} {rs : List (List Int)} {i : Nat} (ht : tabB 0 rs = true) (hi : i ≤ rs.length) (h1 : i = 0 ∨ ¬ L ≤ (rs.getD (i - 1) []).getD 0 0) (h2 : i = rs.length ∨ L ≤ (rs.getD i []).getD 0 0) : IsFst L rs i := by
  refine ⟨hi, fun j hj => ?_, fun h => by rcases h2 with h2 | h2 <;> omega⟩
  rcases h1 with h1 | h1
  · omega
  · by_cases hji : j = i - 1
    · subst hji; omega
    · have := tab_rise ht (i := j) (j := i - 1) (by omega) (by omega); omega
def PA (L : Int) (rs : List (List Int)) (k : Nat) : Prop := (∀ j, j < k → (rs.getD j []).getD 0 0 < L) ∨ (0 < k ∧ L < (rs.getD 0 []).getD 0 0)
theorem pa_eq {L l e : Int} {rs : List (List Int)} {k : Nat} (ht : tabB 0 rs = true) (hr : rs[k]? = some [l, e]) (hA : PA L rs k) (h : l = L) : IsFst L rs k := by
  have hk := (List.getElem?_eq_some_iff.1 hr).1
  have hd : (rs.getD k []).getD 0 0 = l := by rw [getD_of hr]; rfl
  rcases hA with hA | ⟨h1, h2⟩
  · exact ⟨by omega, hA, fun _ => by omega⟩
  · have := tab_rise ht h1 hk; omega
theorem pa_in {L l e l' e' : Int} {rs : List (List Int)} {k : Nat} (ht : tabB 0 rs = true) (hr : rs[k]? = some [l, e]) (hr' : rs[k - 1]? = some [l', e']) (hk0 : 0 < k) (hA : PA L rs k) (h1 : l' < L) (h2 : L < l) : IsFst L rs k := by
  have hk := (List.getElem?_eq_some_iff.1 hr).1
  have hd : (rs.getD k []).getD 0 0 = l := by rw [getD_of hr]; rfl
  have hd' : (rs.getD (k - 1) []).getD 0 0 = l' := by rw [getD_of hr']; rfl
  rcases hA with hA | ⟨h3, h4⟩
  · exact ⟨by omega, hA, fun _ => by omega⟩
  · by_cases h0 : k - 1 = 0
    · rw [h0] at hd'; omega
    · have := tab_rise ht (i := 0) (j := k - 1) (by omega) (by omega); omega
theorem pa_go {L l e : Int} {rs : List (List Int)} {k : Nat} (hr : rs[k]? = some [l, e]) (hA : PA L rs k) (h : ¬ l = L) (h2 : k = 0 ∨ ∃ l' e', rs[k - 1]? = some [l', e'] ∧ 0 < k ∧ ¬ (l' < L ∧ L < l)) : PA L rs (k + 1) := by
  have hd : (rs.getD k []).getD 0 0 = l := by rw [getD_of hr]; rfl
  rcases hA with hA | ⟨h3, h4⟩
  · by_cases hl : l < L
    · left
      intro j hj
      by_cases hjk : j = k
      · subst hjk; omega
      · exact hA j (by omega)
    · rcases h2 with rfl | ⟨l', e', hr', hk0, hn⟩
      · right; exact ⟨by omega, by omega⟩
      · have := hA (k - 1) (by omega)
        have hd' : (rs.getD (k - 1) []).getD 0 0 = l' := by rw [getD_of hr']; rfl
        omega
  · right; exact ⟨by omega, h4⟩
theorem pa_end {L : Int} {rs : List (List Int)} {k : Nat} (h0 : 0 < rs.length) (hk : k = rs.length) (hA : PA L rs k) : ∃ i, IsFst L rs i ∧ fbV L rs i = 0 ∧ fbE L rs i = 3 := by
  subst hk
  rcases hA with hA | ⟨h3, h4⟩
  · exact ⟨rs.length, ⟨Nat.le_refl _, hA, fun h => by omega⟩, by simp [fbV], by simp [fbE]⟩
  · refine ⟨0, ⟨by omega, fun j hj => by omega, fun _ => by omega⟩, ?_, ?_⟩
    · unfold fbV; rw [if_neg (by omega), if_neg (by omega), if_pos rfl]
    · unfold fbE; rw [if_neg (by omega), if_neg (by omega), if_pos rfl]
theorem fb_eq {L l e : Int} {rs : List (List Int)} {k : Nat} (hr : rs[k]? = some [l, e]) (h : l = L) : fbV L rs k = e ∧ fbE L rs k = 0 := by
  have hk := (List.getElem?_eq_some_iff.1 hr).1
  have hk' : ¬ k = rs.length := by omega
  have h1 : [l, e].getD 0 0 = L := h
  constructor
  · unfold fbV; rw [if_neg hk', getD_of hr, if_pos h1]; rfl
  · unfold fbE; rw [if_neg hk', getD_of hr, if_pos h1]
theorem fb_zero {L l e : Int} {rs : List (List Int)} {k : Nat} (hr : rs[k]? = some [l, e]) (h : ¬ l = L) (h0 : k = 0) : fbV L rs k = 0 ∧ fbE L rs k = 3 := by
  have hk := (List.getElem?_eq_some_iff.1 hr).1
  have hk' : ¬ k = rs.length := by omega
  have h1 : ¬ [l, e].getD 0 0 = L := h
  constructor
  · unfold fbV; rw [if_neg hk', getD_of hr, if_neg h1, if_pos h0]
  · unfold fbE; rw [if_neg hk', getD_of hr, if_neg h1, if_pos h0]
theorem fb_in {L l e l' e' : Int} {rs : List (List Int)} {k : Nat} (hr : rs[k]? = some [l, e]) (hr' : rs[k - 1]? = some [l', e']) (h : ¬ l = L) (h0 : ¬ k = 0) : fbV L rs k = -((-(e' * (l - L) + e * (L - l'))) / (l - l')) ∧ fbE L rs k = 0 := by
  have hk := (List.getElem?_eq_some_iff.1 hr).1
  have hk' : ¬ k = rs.length := by omega
  have h1 : ¬ [l, e].getD 0 0 = L := h
  constructor
  · unfold fbV; rw [if_neg hk', getD_of hr, getD_of hr', if_neg h1, if_neg h0]; rfl
  · unfold fbE; rw [if_neg hk', getD_of hr, if_neg h1, if_neg h0]

section
variable {X : FuncId → List Value → St → (Value → St → Bool) → Bool}
theorem freeboard1_s (n i : Nat) (L : Int) (b : Nat) (a : Option Addr) (cap : Nat) (rs : List (List Int)) (s : St) (hs : Wf s) (hL : At s b 0 (.int .i64 L)) (hT : At s b 2 (.slice a rs.length cap)) (hR : RowsE s 2 a rs) (hi : i < rs.length) : Spec Tryz.prog (tabK tabm) X (n + 100) 58 [.int .i64 (i : Int), .pointer (some ⟨b, 0, none⟩)] s (fun v A => v = .bool (decide (L ≤ (rs.getD i []).getD 0 0)) ∧ A = []) := by
  refine enter bm58_at rfl hs ?_
  unfold bm58
  obtain ⟨b2, o, l, e, rfl, hr, hat, hl64, he64⟩ := hR.row2 hi
  have hd := getD_of hr
  obtain ⟨d0, d1, _⟩ := hat
  refine r_seq ?_
  refine r_items ?_
  refine i_op (a_mov rfl ?_) rfl rfl
  refine i_nil ?_
  refine then_n ?_
  refine r_seq ?_
  refine r_items ?_
  refine i_op (a_fa rfl ?_) rfl rfl
  refine i_op (a_ldr rfl (by assumption) ?_) rfl rfl
  refine i_op (a_mov rfl ?_) rfl rfl
  refine i_op (a_ia rfl rfl rfl (by omega) ?_) rfl rfl
  refine i_op (a_fa rfl ?_) rfl rfl
  refine i_op (a_ldr rfl (by assumption) ?_) rfl rfl
  refine i_op (a_fa rfl ?_) rfl rfl
  refine i_op (a_ldr rfl (by assumption) ?_) rfl rfl
  refine i_op (a_geq rfl rfl (fun h1 => ?_) (fun h1 => ?_)) rfl rfl
  · refine i_op (a_mov rfl ?_) rfl rfl
    refine i_nil ?_
    refine then_n ?_
    refine r_ret ?_
    refine end1 rfl ⟨congrArg Value.bool ?_, rfl⟩
    rw [hd]
    first
      | exact (decide_eq_true (show L ≤ l by omega)).symm
      | exact (decide_eq_false (show ¬ L ≤ l by omega)).symm
  · refine i_op (a_mov rfl ?_) rfl rfl
    refine i_nil ?_
    refine then_n ?_
    refine r_ret ?_
    refine end1 rfl ⟨congrArg Value.bool ?_, rfl⟩
    rw [hd]
    first
      | exact (decide_eq_true (show L ≤ l by omega)).symm
      | exact (decide_eq_false (show ¬ L ≤ l by omega)).symm

theorem freeboard_s (n : Nat) (L D : Int) (a c : Option Addr) (cap cap2 : Nat) (rs ss : List (List Int)) (s : St) (hs : Wf s) (hn : 281474976710656 ≤ n) (hR : RowsE s 2 a rs) (hS : RowsE s 4 c ss) (htab : tabB 0 rs = true) (h0 : 0 < rs.length) (hLL : 1 ≤ L ∧ L ≤ 100000) : Spec Tryz.prog (tabK tabm) X (n + 400) 32 [.agg ⟨[.int .i64 L, .int .i64 D, .slice a rs.length cap, .slice c ss.length cap2]⟩] s (fun v A => ∃ i, IsFst L rs i ∧ v = .tuple #[.int .i64 (fbV L rs i), .int .i64 (fbE L rs i)] ∧ A = []) := by
  refine enter bm32_at rfl hs ?_
  unfold bm32
  have hlen := hR.len
  have hlen2 := hS.len
  refine r_seq ?_
  refine r_items ?_
  refine i_op (a_box rfl rfl rfl (fun b1 => ?_)) rfl rfl
  refine i_op (a_mov rfl ?_) rfl rfl
  refine i_op (a_mov rfl ?_) rfl rfl
  refine i_nil ?_
  refine then_n ?_
  refine r_seq ?_
  refine r_items ?_
  refine i_op (a_fa rfl ?_) rfl rfl
  refine i_op (a_ld rfl .here rfl ?_) rfl rfl
  refine i_op (a_lenx rfl hR.spot ?_) rfl rfl
  refine i_op (a_fn rfl rfl ?_) rfl rfl
  refine i_op (a_call rfl rfl (fun s1 h1 => Search_s _ rs.length _ _ (fun i => L ≤ (rs.getD i []).getD 0 0) s1 s1 h1.wf (by omega) hlen (Ext.refl h1.wf) (fun n i hi s2 x => freeboard1_s n i L _ a cap rs s2 x.1 (((h1.own .here).at rfl).ext h1.wf x) (((h1.own .here).at rfl).ext h1.wf x) ((hR.ext hs h1.2.1).ext h1.wf x) hi)) (fun v1 A1 q1 => ?_)) rfl rfl
  obtain ⟨i, hi, rfl, rfl, hlo, hhi⟩ := q1
  have hfst := fst_of htab hi hlo hhi
  · refine i_op (a_mov rfl ?_) rfl rfl
    refine i_nil ?_
    refine then_n ?_
    refine r_seq ?_
    refine r_block ?_
    refine r_seq ?_
    refine r_items ?_
    refine i_op (a_mov rfl ?_) rfl rfl
    refine i_op (a_fa rfl ?_) rfl rfl
    refine i_op (a_ld rfl .here rfl ?_) rfl rfl
    refine i_op (a_lenx rfl hR.spot ?_) rfl rfl
    refine i_op (a_eql rfl rfl (fun h2 => ?_) (fun h2 => ?_)) rfl rfl
    · refine i_op (a_mov rfl ?_) rfl rfl
      refine i_nil ?_
      refine then_n ?_
      refine r_cond_t rfl ?_
      refine r_seq ?_
      refine r_items ?_
      refine i_op (a_mov rfl ?_) rfl rfl
      refine i_op (a_mov rfl ?_) rfl rfl
      refine i_nil ?_
      refine then_n ?_
      refine r_ret ?_
      refine block_r ?_
      refine then_r ?_
      by_cases hk' : i = rs.length
      · have w1 : fbV L rs i = 0 := (by unfold fbV; rw [if_pos hk'])
        have w2 : fbE L rs i = 3 := (by unfold fbE; rw [if_pos hk'])
        refine end2 rfl rfl ⟨i, hfst, ?_, rfl⟩
        first | (rw [w1, w2]; done) | (exfalso; omega)
      · first
          | (exfalso; omega)
          | (by_cases q : l = L
             · obtain ⟨w1, w2⟩ := fb_eq hr q
               refine end2 rfl rfl ⟨i, hfst, ?_, rfl⟩
               first | (rw [w1, w2]; done) | (exfalso; omega)
             · by_cases q0 : i = 0
               · obtain ⟨w1, w2⟩ := fb_zero hr q q0
                 refine end2 rfl rfl ⟨i, hfst, ?_, rfl⟩
                 first | (rw [w1, w2]; done) | (exfalso; omega)
               · first
                   | (exfalso; omega)
                   | (obtain ⟨w1, w2⟩ := fb_in hr hr' q q0
                      refine end2 rfl rfl ⟨i, hfst, ?_, rfl⟩
                      rw [w1, w2]))
    · obtain ⟨b, o, l, e, rfl, hr, hat, hl64, he64⟩ := hR.row2 (k := i) (by omega)
      have hat2 := hat
      obtain ⟨d0, d1, _⟩ := hat2
      have hrow := tab_row htab (by decide) hr
      refine i_op (a_mov rfl ?_) rfl rfl
      refine i_nil ?_
      refine then_n ?_
      refine r_cond_f rfl ?_
      refine r_seq ?_
      refine r_items ?_
      refine i_op (a_fa rfl ?_) rfl rfl
      refine i_op (a_ld rfl .here rfl ?_) rfl rfl
      refine i_op (a_mov rfl ?_) rfl rfl
      refine i_op (a_ia rfl rfl rfl (by omega) ?_) rfl rfl
      refine i_op (a_fa rfl ?_) rfl rfl
      refine i_op (a_ldr rfl (by assumption) ?_) rfl rfl
      refine i_op (a_fa rfl ?_) rfl rfl
      refine i_op (a_ld rfl .here rfl ?_) rfl rfl
      refine i_op (a_eql rfl rfl (fun h3 => ?_) (fun h3 => ?_)) rfl rfl
      · refine i_op (a_mov rfl ?_) rfl rfl
        refine i_nil ?_
        refine then_n ?_
        refine r_cond_t rfl ?_
        refine r_seq ?_
        refine r_items ?_
        refine i_op (a_fa rfl ?_) rfl rfl
        refine i_op (a_ld rfl .here rfl ?_) rfl rfl
        refine i_op (a_mov rfl ?_) rfl rfl
        refine i_op (a_ia rfl rfl rfl (by omega) ?_) rfl rfl
        refine i_op (a_fa rfl ?_) rfl rfl
        refine i_op (a_ldr rfl (by assumption) ?_) rfl rfl
        refine i_op (a_mov rfl ?_) rfl rfl
        refine i_op (a_mov rfl ?_) rfl rfl
        refine i_nil ?_
        refine then_n ?_
        refine r_ret ?_
        refine block_r ?_
        refine then_r ?_
        by_cases hk' : i = rs.length
        · have w1 : fbV L rs i = 0 := (by unfold fbV; rw [if_pos hk'])
          have w2 : fbE L rs i = 3 := (by unfold fbE; rw [if_pos hk'])
          refine end2 rfl rfl ⟨i, hfst, ?_, rfl⟩
          first | (rw [w1, w2]; done) | (exfalso; omega)
        · first
            | (exfalso; omega)
            | (by_cases q : l = L
               · obtain ⟨w1, w2⟩ := fb_eq hr q
                 refine end2 rfl rfl ⟨i, hfst, ?_, rfl⟩
                 first | (rw [w1, w2]; done) | (exfalso; omega)
               · by_cases q0 : i = 0
                 · obtain ⟨w1, w2⟩ := fb_zero hr q q0
                   refine end2 rfl rfl ⟨i, hfst, ?_, rfl⟩
                   first | (rw [w1, w2]; done) | (exfalso; omega)
                 · first
                     | (exfalso; omega)
                     | (obtain ⟨w1, w2⟩ := fb_in hr hr' q q0
                        refine end2 rfl rfl ⟨i, hfst, ?_, rfl⟩
                        rw [w1, w2]))
      · refine i_op (a_mov rfl ?_) rfl rfl
        refine i_nil ?_
        refine then_n ?_
        refine r_cond_f rfl ?_
        refine r_seq ?_
        refine r_items ?_
        refine i_op (a_mov rfl ?_) rfl rfl
        refine i_op (a_eql rfl rfl (fun h4 => ?_) (fun h4 => ?_)) rfl rfl
        · refine i_op (a_mov rfl ?_) rfl rfl
          refine i_nil ?_
          refine then_n ?_
          refine r_cond_t rfl ?_
          refine r_seq ?_
          refine r_items ?_
          refine i_op (a_mov rfl ?_) rfl rfl
          refine i_op (a_mov rfl ?_) rfl rfl
          refine i_nil ?_
          refine then_n ?_
          refine r_ret ?_
          refine block_r ?_
          refine then_r ?_
          by_cases hk' : i = rs.length
          · have w1 : fbV L rs i = 0 := (by unfold fbV; rw [if_pos hk'])
            have w2 : fbE L rs i = 3 := (by unfold fbE; rw [if_pos hk'])
            refine end2 rfl rfl ⟨i, hfst, ?_, rfl⟩
            first | (rw [w1, w2]; done) | (exfalso; omega)
          · first
              | (exfalso; omega)
              | (by_cases q : l = L
                 · obtain ⟨w1, w2⟩ := fb_eq hr q
                   refine end2 rfl rfl ⟨i, hfst, ?_, rfl⟩
                   first | (rw [w1, w2]; done) | (exfalso; omega)
                 · by_cases q0 : i = 0
                   · obtain ⟨w1, w2⟩ := fb_zero hr q q0
                     refine end2 rfl rfl ⟨i, hfst, ?_, rfl⟩
                     first | (rw [w1, w2]; done) | (exfalso; omega)
                   · first
                       | (exfalso; omega)
                       | (obtain ⟨w1, w2⟩ := fb_in hr hr' q q0
                          refine end2 rfl rfl ⟨i, hfst, ?_, rfl⟩
                          rw [w1, w2]))
        · refine i_op (a_mov rfl ?_) rfl rfl
          refine i_nil ?_
          refine then_n ?_
          refine r_cond_f rfl ?_
          refine r_skip ?_
          refine block_n ?_
          refine then_n ?_
          refine r_seq ?_
          refine r_items ?_
          refine i_op (a_fa rfl ?_) rfl rfl
          refine i_op (a_ld rfl .here rfl ?_) rfl rfl
          refine i_op (a_mov rfl ?_) rfl rfl
          refine i_op (a_sub rfl rfl (by omega) ?_) rfl rfl
          obtain ⟨b', o', l', e', he', hr', hat', hl64', he64'⟩ := hR.row2 (k := i - 1) (by omega)
          cases he'
          have hat3 := hat'
          obtain ⟨c0, c1, _⟩ := hat3
          have hrow' := tab_row htab (by decide) hr'
          have hrise : l' < l := by have := tab_rise htab (i := i - 1) (j := i) (by omega) (by omega); rw [getD_of hr, getD_of hr'] at this; exact this
          have hm1 : l' < L → L < l → 0 ≤ e' * (l - L) ∧ e' * (l - L) ≤ 5000 * 100000 := fun _ _ => mul_bd (by omega) (by omega) (by omega) (by omega)
          have hm2 : l' < L → L < l → 0 ≤ e * (L - l') ∧ e * (L - l') ≤ 5000 * 100000 := fun _ _ => mul_bd (by omega) (by omega) (by omega) (by omega)
          have hlt : l' < L := by have := hfst.2.1 (i - 1) (by omega); rw [getD_of hr'] at this; exact this
          have hgt : L < l := by have := hfst.2.2 (by omega); rw [getD_of hr] at this; have h9 : L ≤ l := this; omega
          have hm1 := hm1 hlt hgt
          have hm2 := hm2 hlt hgt
          refine i_op (a_ia (j := i - 1) rfl rfl (by omega) (by omega) ?_) rfl rfl
          refine i_op (a_ldar rfl (by decide) (by assumption) rfl ?_) rfl rfl
          refine i_op (a_fa rfl ?_) rfl rfl
          refine i_op (a_ld rfl .here rfl ?_) rfl rfl
          refine i_op (a_mov rfl ?_) rfl rfl
          refine i_op (a_ia rfl rfl rfl (by omega) ?_) rfl rfl
          refine i_op (a_ldar rfl (by decide) (by assumption) rfl ?_) rfl rfl
          refine i_op (a_new rfl rfl (fun b5 => ?_)) rfl rfl
          refine i_op (a_new rfl rfl (fun b6 => ?_)) rfl rfl
          refine i_opn (a_sta rfl rfl (.next .here) rfl rfl rfl rfl ?_) rfl
          refine i_opn (a_againar rfl rfl (by decide) (by assumption) rfl (by simp [eqL, eqV, eqA, kindEq, intEq_eq, eqV_sl hR.spot]) ?_) rfl
          refine i_opn (a_again rfl rfl (.next (.next .here)) rfl (by simp [eqV, eqA, eqL, kindEq, intEq_eq, eqV_sl hR.spot]) ?_) rfl
          refine i_opn (a_sta rfl rfl .here rfl rfl rfl rfl ?_) rfl
          refine i_nil ?_
          refine then_n ?_
          refine r_seq ?_
          refine r_items ?_
          refine i_op (a_fa rfl ?_) rfl rfl
          refine i_op (a_ld rfl (.next .here) rfl ?_) rfl rfl
          refine i_op (a_fa rfl ?_) rfl rfl
          refine i_op (a_ld rfl .here rfl ?_) rfl rfl
          refine i_op (a_fa rfl ?_) rfl rfl
          refine i_op (a_ld rfl (.next (.next .here)) rfl ?_) rfl rfl
          refine i_op (a_sub rfl rfl (by omega) ?_) rfl rfl
          refine i_op (a_mul rfl rfl (by omega) ?_) rfl rfl
          refine i_op (a_fa rfl ?_) rfl rfl
          refine i_op (a_ld rfl .here rfl ?_) rfl rfl
          refine i_op (a_fa rfl ?_) rfl rfl
          refine i_op (a_ld rfl (.next (.next .here)) rfl ?_) rfl rfl
          refine i_op (a_fa rfl ?_) rfl rfl
          refine i_op (a_ld rfl (.next .here) rfl ?_) rfl rfl
          refine i_op (a_sub rfl rfl (by omega) ?_) rfl rfl
          refine i_op (a_mul rfl rfl (by omega) ?_) rfl rfl
          refine i_op (a_add rfl rfl (by omega) ?_) rfl rfl
          refine i_op (a_mov rfl ?_) rfl rfl
          refine i_nil ?_
          refine then_n ?_
          refine r_seq ?_
          refine r_items ?_
          refine i_op (a_mov rfl ?_) rfl rfl
          refine i_op (a_fa rfl ?_) rfl rfl
          refine i_op (a_ld rfl .here rfl ?_) rfl rfl
          refine i_op (a_fa rfl ?_) rfl rfl
          refine i_op (a_ld rfl (.next .here) rfl ?_) rfl rfl
          refine i_op (a_sub rfl rfl (by omega) ?_) rfl rfl
          refine i_op (a_callV rfl rfl (fun s1 h1 => ceil_s _ _ _ s1 h1.wf (by omega) (by omega)) ?_) rfl rfl
          refine i_op (a_mov rfl ?_) rfl rfl
          refine i_op (a_mov rfl ?_) rfl rfl
          refine i_nil ?_
          refine then_n ?_
          refine r_ret ?_
          by_cases hk' : i = rs.length
          · have w1 : fbV L rs i = 0 := (by unfold fbV; rw [if_pos hk'])
            have w2 : fbE L rs i = 3 := (by unfold fbE; rw [if_pos hk'])
            refine end2 rfl rfl ⟨i, hfst, ?_, rfl⟩
            first | (rw [w1, w2]; done) | (exfalso; omega)
          · first
              | (exfalso; omega)
              | (by_cases q : l = L
                 · obtain ⟨w1, w2⟩ := fb_eq hr q
                   refine end2 rfl rfl ⟨i, hfst, ?_, rfl⟩
                   first | (rw [w1, w2]; done) | (exfalso; omega)
                 · by_cases q0 : i = 0
                   · obtain ⟨w1, w2⟩ := fb_zero hr q q0
                     refine end2 rfl rfl ⟨i, hfst, ?_, rfl⟩
                     first | (rw [w1, w2]; done) | (exfalso; omega)
                   · first
                       | (exfalso; omega)
                       | (obtain ⟨w1, w2⟩ := fb_in hr hr' q q0
                          refine end2 rfl rfl ⟨i, hfst, ?_, rfl⟩
                          rw [w1, w2]))

theorem rfreeboard_s (n : Nat) (L D : Int) (a c : Option Addr) (cap cap2 : Nat) (rs ss : List (List Int)) (s : St) (hs : Wf s) (hn : 281474976710656 ≤ n) (hR : RowsE s 2 a rs) (hS : RowsE s 4 c ss) (htab : tabB 0 rs = true) (h0 : 0 < rs.length) (hLL : 1 ≤ L ∧ L ≤ 100000) : Spec Tryz.prog (tabK tabm) X (n + 400) 33 [.agg ⟨[.int .i64 L, .int .i64 D, .slice a rs.length cap, .slice c ss.length cap2]⟩] s (fun v A => ∃ i, IsFst L rs i ∧ v = .tuple #[.int .i64 (fbV L rs i), .int .i64 (fbE L rs i)] ∧ A = []) := by
  refine enter bm33_at rfl hs ?_
  unfold bm33
  have hlen := hR.len
  have hlen2 := hS.len
  refine r_seq ?_
  refine r_items ?_
  refine i_op (a_box rfl rfl rfl (fun b1 => ?_)) rfl rfl
  refine i_op (a_mov rfl ?_) rfl rfl
  refine i_op (a_mov rfl ?_) rfl rfl
  refine i_nil ?_
  refine then_n ?_
  refine r_seq ?_
  refine r_items ?_
  refine i_op (a_fa rfl ?_) rfl rfl
  refine i_op (a_ld rfl .here rfl ?_) rfl rfl
  refine i_op (a_mov rfl ?_) rfl rfl
  refine i_nil ?_
  refine then_n ?_
  refine r_seq ?_
  refine r_seq ?_
  refine r_items ?_
  refine i_op (a_mov rfl ?_) rfl rfl
  refine i_nil ?_
  refine then_n ?_
  refine r_block ?_
  refine r_loop (fun j e A => ∃ (k : Nat), e = [(1, .pointer (some ⟨b1, 0, none⟩)), (4, .slice a rs.length cap), (5, .int .i64 (k : Int))] ∧ A = [⟨b1, 25, false, [.int .i64 L, .int .i64 D, .slice a rs.length cap, .slice c ss.length cap2]⟩] ∧ j = rs.length - k ∧ k ≤ rs.length ∧ PA L rs k) 300 0 281474976710656 ?_ (j := _) (env2 := _) (A2 := _) ?_ ?_ ?_ ?_ ⟨0, rfl, rfl, rfl, Nat.zero_le _, .inl (fun j hj => absurd hj (Nat.not_lt_zero j))⟩
  rotate_left
  · omega
  · omega
  · exact (Less.cons rfl (Less.cons rfl (Less.cons rfl Less.nil)))
  · exact (.cons_cons _ .slnil)
  rintro n hn j _ _ ⟨k, rfl, rfl, rfl, hk, hA⟩
  refine r_seq ?_
  refine r_seq ?_
  refine r_items ?_
  refine i_op (a_mov rfl ?_) rfl rfl
  refine i_op (a_mov rfl ?_) rfl rfl
  refine i_op (a_lenx rfl hR.spot ?_) rfl rfl
  refine i_op (a_lss rfl rfl (fun h2 => ?_) (fun h2 => ?_)) rfl rfl
  · obtain ⟨b, o, l, e, rfl, hr, hat, hl64, he64⟩ := hR.row2 (k := k) (by omega)
    have hat2 := hat
    obtain ⟨d0, d1, _⟩ := hat2
    have hrow := tab_row htab (by decide) hr
    refine i_nil ?_
    refine then_n ?_
    refine r_cond_t rfl ?_
    refine r_skip ?_
    refine then_n ?_
    refine r_seq ?_
    refine r_block ?_
    refine r_seq ?_
    refine r_seq ?_
    refine r_items ?_
    refine i_op (a_mov rfl ?_) rfl rfl
    refine i_op (a_mov rfl ?_) rfl rfl
    refine i_op (a_ia rfl rfl rfl (by omega) ?_) rfl rfl
    refine i_op (a_fa rfl ?_) rfl rfl
    refine i_op (a_ldr rfl (by assumption) ?_) rfl rfl
    refine i_op (a_fa rfl ?_) rfl rfl
    refine i_op (a_ld rfl .here rfl ?_) rfl rfl
    refine i_op (a_eql rfl rfl (fun h3 => ?_) (fun h3 => ?_)) rfl rfl
    · refine i_nil ?_
      refine then_n ?_
      refine r_cond_t rfl ?_
      refine r_seq ?_
      refine r_items ?_
      refine i_op (a_mov rfl ?_) rfl rfl
      refine i_op (a_mov rfl ?_) rfl rfl
      refine i_op (a_ia rfl rfl rfl (by omega) ?_) rfl rfl
      refine i_op (a_fa rfl ?_) rfl rfl
      refine i_op (a_ldr rfl (by assumption) ?_) rfl rfl
      refine i_op (a_mov rfl ?_) rfl rfl
      refine i_op (a_mov rfl ?_) rfl rfl
      refine i_nil ?_
      refine then_n ?_
      refine r_ret ?_
      refine then_r ?_
      refine block_r ?_
      refine then_r ?_
      refine then_r ?_
      refine block_r ?_
      refine then_r ?_
      by_cases q1 : k < rs.length
      · first
          | (exfalso; omega)
          | (by_cases q : l = L
             · obtain ⟨w1, w2⟩ := fb_eq hr q
               refine end2 rfl rfl ⟨k, pa_eq htab hr hA q, ?_, rfl⟩
               first | (rw [w1, w2]; done) | (exfalso; omega)
             · first
                 | (exfalso; omega)
                 | (obtain ⟨w1, w2⟩ := fb_in hr hr' q (by omega)
                    refine end2 rfl rfl ⟨k, pa_in htab hr hr' (by omega) hA (by omega) (by omega), ?_, rfl⟩
                    rw [w1, w2, ceil_eq (by omega) (by omega)]))
      · obtain ⟨i, w0, w1, w2⟩ := pa_end h0 (by omega) hA
        refine end2 rfl rfl ⟨i, w0, ?_, rfl⟩
        first | (rw [w1, w2]; done) | (exfalso; omega)
    · refine i_nil ?_
      refine then_n ?_
      refine r_cond_f rfl ?_
      refine r_skip ?_
      refine then_n ?_
      refine r_seq ?_
      refine r_items ?_
      refine i_op (a_mov rfl ?_) rfl rfl
      refine i_op (a_gtr rfl rfl (fun h4 => ?_) (fun h4 => ?_)) rfl rfl
      · refine i_op (a_mov rfl ?_) rfl rfl
        refine i_op (a_mov rfl ?_) rfl rfl
        refine i_op (a_mov rfl ?_) rfl rfl
        refine i_op (a_sub rfl rfl (by omega) ?_) rfl rfl
        obtain ⟨b', o', l', e', he', hr', hat', hl64', he64'⟩ := hR.row2 (k := k - 1) (by omega)
        cases he'
        have hat3 := hat'
        obtain ⟨c0, c1, _⟩ := hat3
        have hrow' := tab_row htab (by decide) hr'
        have hrise : l' < l := by have := tab_rise htab (i := k - 1) (j := k) (by omega) (by omega); rw [getD_of hr, getD_of hr'] at this; exact this
        have hm1 : l' < L → L < l → 0 ≤ e' * (l - L) ∧ e' * (l - L) ≤ 5000 * 100000 := fun _ _ => mul_bd (by omega) (by omega) (by omega) (by omega)
        have hm2 : l' < L → L < l → 0 ≤ e * (L - l') ∧ e * (L - l') ≤ 5000 * 100000 := fun _ _ => mul_bd (by omega) (by omega) (by omega) (by omega)
        refine i_op (a_ia (j := k - 1) rfl rfl (by omega) (by omega) ?_) rfl rfl
        refine i_op (a_fa rfl ?_) rfl rfl
        refine i_op (a_ldr rfl (by assumption) ?_) rfl rfl
        refine i_op (a_fa rfl ?_) rfl rfl
        refine i_op (a_ld rfl .here rfl ?_) rfl rfl
        refine i_op (a_lss rfl rfl (fun h5 => ?_) (fun h5 => ?_)) rfl rfl
        · refine i_op (a_pick_t rfl rfl rfl ?_) rfl rfl
          refine i_op (a_mov rfl ?_) rfl rfl
          refine i_op (a_fa rfl ?_) rfl rfl
          refine i_op (a_ld rfl .here rfl ?_) rfl rfl
          refine i_op (a_mov rfl ?_) rfl rfl
          refine i_op (a_mov rfl ?_) rfl rfl
          refine i_op (a_ia rfl rfl rfl (by omega) ?_) rfl rfl
          refine i_op (a_fa rfl ?_) rfl rfl
          refine i_op (a_ldr rfl (by assumption) ?_) rfl rfl
          refine i_op (a_lss rfl rfl (fun h6 => ?_) (fun h6 => ?_)) rfl rfl
          · refine i_op (a_pick_t rfl rfl rfl ?_) rfl rfl
            refine i_nil ?_
            refine then_n ?_
            refine r_cond_t rfl ?_
            refine r_seq ?_
            refine r_items ?_
            refine i_op (a_mov rfl ?_) rfl rfl
            refine i_op (a_mov rfl ?_) rfl rfl
            refine i_op (a_sub rfl rfl (by omega) ?_) rfl rfl
            refine i_op (a_ia (j := k - 1) rfl rfl (by omega) (by omega) ?_) rfl rfl
            refine i_op (a_fa rfl ?_) rfl rfl
            refine i_op (a_ldr rfl (by assumption) ?_) rfl rfl
            refine i_op (a_mov rfl ?_) rfl rfl
            refine i_op (a_mov rfl ?_) rfl rfl
            refine i_op (a_ia rfl rfl rfl (by omega) ?_) rfl rfl
            refine i_op (a_fa rfl ?_) rfl rfl
            refine i_op (a_ldr rfl (by assumption) ?_) rfl rfl
            refine i_op (a_fa rfl ?_) rfl rfl
            refine i_op (a_ld rfl .here rfl ?_) rfl rfl
            refine i_op (a_sub rfl rfl (by omega) ?_) rfl rfl
            have hm1 := hm1 (by assumption) (by assumption)
            have hm2 := hm2 (by assumption) (by assumption)
            refine i_op (a_mul rfl rfl (by omega) ?_) rfl rfl
            refine i_op (a_mov rfl ?_) rfl rfl
            refine i_op (a_mov rfl ?_) rfl rfl
            refine i_op (a_ia rfl rfl rfl (by omega) ?_) rfl rfl
            refine i_op (a_fa rfl ?_) rfl rfl
            refine i_op (a_ldr rfl (by assumption) ?_) rfl rfl
            refine i_op (a_fa rfl ?_) rfl rfl
            refine i_op (a_ld rfl .here rfl ?_) rfl rfl
            refine i_op (a_mov rfl ?_) rfl rfl
            refine i_op (a_mov rfl ?_) rfl rfl
            refine i_op (a_sub rfl rfl (by omega) ?_) rfl rfl
            refine i_op (a_ia (j := k - 1) rfl rfl (by omega) (by omega) ?_) rfl rfl
            refine i_op (a_fa rfl ?_) rfl rfl
            refine i_op (a_ldr rfl (by assumption) ?_) rfl rfl
            refine i_op (a_sub rfl rfl (by omega) ?_) rfl rfl
            refine i_op (a_mul rfl rfl (by omega) ?_) rfl rfl
            refine i_op (a_add rfl rfl (by omega) ?_) rfl rfl
            refine i_op (a_mov rfl ?_) rfl rfl
            refine i_nil ?_
            refine then_n ?_
            refine r_seq ?_
            refine r_items ?_
            refine i_op (a_mov rfl ?_) rfl rfl
            refine i_op (a_mov rfl ?_) rfl rfl
            refine i_op (a_ia rfl rfl rfl (by omega) ?_) rfl rfl
            refine i_op (a_fa rfl ?_) rfl rfl
            refine i_op (a_ldr rfl (by assumption) ?_) rfl rfl
            refine i_op (a_mov rfl ?_) rfl rfl
            refine i_op (a_mov rfl ?_) rfl rfl
            refine i_op (a_sub rfl rfl (by omega) ?_) rfl rfl
            refine i_op (a_ia (j := k - 1) rfl rfl (by omega) (by omega) ?_) rfl rfl
            refine i_op (a_fa rfl ?_) rfl rfl
            refine i_op (a_ldr rfl (by assumption) ?_) rfl rfl
            refine i_op (a_sub rfl rfl (by omega) ?_) rfl rfl
            refine i_op (a_mov rfl ?_) rfl rfl
            refine i_nil ?_
            refine then_n ?_
            refine r_seq ?_
            refine r_items ?_
            refine i_op (a_mov rfl ?_) rfl rfl
            refine i_op (a_mov rfl ?_) rfl rfl
            refine i_op (a_add rfl rfl (by omega) ?_) rfl rfl
            refine i_op (a_sub rfl rfl (by omega) ?_) rfl rfl
            refine i_op (a_mov rfl ?_) rfl rfl
            refine i_op (a_quo rfl rfl (by omega) (tdiv_rng (by omega) (by omega)) ?_) rfl rfl
            refine i_op (a_mov rfl ?_) rfl rfl
            refine i_op (a_mov rfl ?_) rfl rfl
            refine i_nil ?_
            refine then_n ?_
            refine r_ret ?_
            refine block_r ?_
            refine then_r ?_
            refine then_r ?_
            refine block_r ?_
            refine then_r ?_
            by_cases q1 : k < rs.length
            · first
                | (exfalso; omega)
                | (by_cases q : l = L
                   · obtain ⟨w1, w2⟩ := fb_eq hr q
                     refine end2 rfl rfl ⟨k, pa_eq htab hr hA q, ?_, rfl⟩
                     first | (rw [w1, w2]; done) | (exfalso; omega)
                   · first
                       | (exfalso; omega)
                       | (obtain ⟨w1, w2⟩ := fb_in hr hr' q (by omega)
                          refine end2 rfl rfl ⟨k, pa_in htab hr hr' (by omega) hA (by omega) (by omega), ?_, rfl⟩
                          rw [w1, w2, ceil_eq (by omega) (by omega)]))
            · obtain ⟨i, w0, w1, w2⟩ := pa_end h0 (by omega) hA
              refine end2 rfl rfl ⟨i, w0, ?_, rfl⟩
              first | (rw [w1, w2]; done) | (exfalso; omega)
          · refine i_op (a_pick_t rfl rfl rfl ?_) rfl rfl
            refine i_nil ?_
            refine then_n ?_
            refine r_cond_f rfl ?_
            refine r_skip ?_
            refine block_n ?_
            refine then_n ?_
            refine r_items ?_
            refine i_op (a_mov rfl ?_) rfl rfl
            refine i_op (a_add rfl rfl (by omega) ?_) rfl rfl
            refine i_op (a_mov rfl ?_) rfl rfl
            refine i_nil ?_
            refine then_n ?_
            exact ⟨rfl, _, _, _, (show rs.length - (k + 1) < rs.length - k by omega), (Less.cons (t := 1) rfl (Less.cons (t := 4) rfl (Less.cons (t := 5) rfl Less.nil))), (.cons_cons _ .slnil), ⟨k + 1, rfl, rfl, rfl, by omega, (by first | exact pa_go hr hA (by omega) (.inl (by omega)) | exact pa_go hr hA (by omega) (.inr ⟨_, _, hr', by omega, by omega⟩))⟩⟩
        · refine i_op (a_pick_t rfl rfl rfl ?_) rfl rfl
          refine i_op (a_mov rfl ?_) rfl rfl
          refine i_no rfl rfl ?_
          refine i_no rfl rfl ?_
          refine i_no rfl rfl ?_
          refine i_no rfl rfl ?_
          refine i_no rfl rfl ?_
          refine i_no rfl rfl ?_
          refine i_no rfl rfl ?_
          refine i_no rfl rfl ?_
          refine i_op (a_pick_f rfl rfl rfl ?_) rfl rfl
          refine i_nil ?_
          refine then_n ?_
          refine r_cond_f rfl ?_
          refine r_skip ?_
          refine block_n ?_
          refine then_n ?_
          refine r_items ?_
          refine i_op (a_mov rfl ?_) rfl rfl
          refine i_op (a_add rfl rfl (by omega) ?_) rfl rfl
          refine i_op (a_mov rfl ?_) rfl rfl
          refine i_nil ?_
          refine then_n ?_
          exact ⟨rfl, _, _, _, (show rs.length - (k + 1) < rs.length - k by omega), (Less.cons (t := 1) rfl (Less.cons (t := 4) rfl (Less.cons (t := 5) rfl Less.nil))), (.cons_cons _ .slnil), ⟨k + 1, rfl, rfl, rfl, by omega, (by first | exact pa_go hr hA (by omega) (.inl (by omega)) | exact pa_go hr hA (by omega) (.inr ⟨_, _, hr', by omega, by omega⟩))⟩⟩
      · refine i_op (a_mov rfl ?_) rfl rfl
        refine i_no rfl rfl ?_
        refine i_no rfl rfl ?_
        refine i_no rfl rfl ?_
        refine i_no rfl rfl ?_
        refine i_no rfl rfl ?_
        refine i_no rfl rfl ?_
        refine i_no rfl rfl ?_
        refine i_no rfl rfl ?_
        refine i_no rfl rfl ?_
        refine i_op (a_pick_f rfl rfl rfl ?_) rfl rfl
        refine i_op (a_mov rfl ?_) rfl rfl
        refine i_no rfl rfl ?_
        refine i_no rfl rfl ?_
        refine i_no rfl rfl ?_
        refine i_no rfl rfl ?_
        refine i_no rfl rfl ?_
        refine i_no rfl rfl ?_
        refine i_no rfl rfl ?_
        refine i_no rfl rfl ?_
        refine i_op (a_pick_f rfl rfl rfl ?_) rfl rfl
        refine i_nil ?_
        refine then_n ?_
        refine r_cond_f rfl ?_
        refine r_skip ?_
        refine block_n ?_
        refine then_n ?_
        refine r_items ?_
        refine i_op (a_mov rfl ?_) rfl rfl
        refine i_op (a_add rfl rfl (by omega) ?_) rfl rfl
        refine i_op (a_mov rfl ?_) rfl rfl
        refine i_nil ?_
        refine then_n ?_
        exact ⟨rfl, _, _, _, (show rs.length - (k + 1) < rs.length - k by omega), (Less.cons (t := 1) rfl (Less.cons (t := 4) rfl (Less.cons (t := 5) rfl Less.nil))), (.cons_cons _ .slnil), ⟨k + 1, rfl, rfl, rfl, by omega, (by first | exact pa_go hr hA (by omega) (.inl (by omega)) | exact pa_go hr hA (by omega) (.inr ⟨_, _, hr', by omega, by omega⟩))⟩⟩
  · refine i_nil ?_
    refine then_n ?_
    refine r_cond_f rfl ?_
    refine r_exit ?_
    refine then_e ?_
    refine then_e ?_
    refine block_hit ?_
    refine then_n ?_
    refine r_seq ?_
    refine r_items ?_
    refine i_op (a_mov rfl ?_) rfl rfl
    refine i_op (a_mov rfl ?_) rfl rfl
    refine i_nil ?_
    refine then_n ?_
    refine r_ret ?_
    by_cases q1 : k < rs.length
    · first
        | (exfalso; omega)
        | (by_cases q : l = L
           · obtain ⟨w1, w2⟩ := fb_eq hr q
             refine end2 rfl rfl ⟨k, pa_eq htab hr hA q, ?_, rfl⟩
             first | (rw [w1, w2]; done) | (exfalso; omega)
           · first
               | (exfalso; omega)
               | (obtain ⟨w1, w2⟩ := fb_in hr hr' q (by omega)
                  refine end2 rfl rfl ⟨k, pa_in htab hr hr' (by omega) hA (by omega) (by omega), ?_, rfl⟩
                  rw [w1, w2, ceil_eq (by omega) (by omega)]))
    · obtain ⟨i, w0, w1, w2⟩ := pa_end h0 (by omega) hA
      refine end2 rfl rfl ⟨i, w0, ?_, rfl⟩
      first | (rw [w1, w2]; done) | (exfalso; omega)

end
end Ev
end Go.Proofs.YtgbfnonfecpajaaGreat
