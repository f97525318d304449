import Derived.Test.YtfhfjcfhanmbiaaGreatZb07
import Derived.Test.YtfhfjcfhanmbiaaGreatZb04
set_option linter.unusedVariables false
set_option linter.unusedSimpArgs false
/- Contracts: tape days. -/
namespace Go.Proofs.YtfhfjcfhanmbiaaGreat
open Go Go.RowKit
namespace Ev
theorem RowsE.row2 {s : St} {a : Option Addr} {rs : List (List Int)} (h : RowsE s 2 a rs) {k : Nat} (hk : k < rs.length) : ∃ b o p q, a = some ⟨b, o, none⟩ ∧ rs[k]? = some [p, q] ∧ Ats s b (o + k * 2) [.int .i64 p, .int .i64 q] ∧ I64 p ∧ I64 q := by
  obtain ⟨b, o, r, h1, h2, h3, h4, h5⟩ := h.row hk
  obtain ⟨p, r1, rfl, g1⟩ := list_len_succ h3
  obtain ⟨q, r2, rfl, g2⟩ := list_len_succ g1
  have : r2 = [] := List.eq_nil_of_length_eq_zero g2
  subst this
  exact ⟨b, o, p, q, h1, h2, h4, h5 p (by simp), h5 q (by simp)⟩
theorem eqTD (a0 a1 b0 b1 : Int) : pureVal Tryz.prog (Op.equal 71 (.agg #[.int .i64 a0, .int .i64 a1]) (.agg #[.int .i64 b0, .int .i64 b1])) = some (decide (([a0, a1] : List Int) = [b0, b1])) := by
  have p0 : pureVal Tryz.prog (part 3 #[.int .i64 a0, .int .i64 a1] 0) = some (.int .i64 a0) := by kernel_rfl
  have q0 : pureVal Tryz.prog (part 3 #[.int .i64 b0, .int .i64 b1] 0) = some (.int .i64 b0) := by kernel_rfl
  have p1 : pureVal Tryz.prog (part 3 #[.int .i64 a0, .int .i64 a1] 1) = some (.int .i64 a1) := by kernel_rfl
  have q1 : pureVal Tryz.prog (part 3 #[.int .i64 b0, .int .i64 b1] 1) = some (.int .i64 b1) := by kernel_rfl
  have e0 : ∀ x y, pureVal Tryz.prog (Op.equalIn 9999 3 (.int .i64 x) (.int .i64 y)) = some (x == y) := by intro x y; kernel_rfl
  unfold Op.equal
  show pureVal _ (Op.equalIn (9999 + 1) 71 _ _) = _
  rw [Op.equalIn]
  rw [pv_bind, pv_und Tryz.underlying71]
  simp [pv_bind, pv_prog, p0, q0, p1, q1, e0]
  by_cases h0 : a0 = b0
  · subst h0
    by_cases h1 : a1 = b1
    · subst h1
      simp [pv_bind, pv_pure, p1, q1, e0]
    · simp [h1, pv_bind, pv_pure, p1, q1, e0]
  · simp [h0, pv_bind, pv_pure, p1, q1, e0]

def flatV (L : List (List Int)) : List Value := L.flatMap fun r => r.map (.int .i64)
theorem flatV_app {L M : List (List Int)} : flatV (L ++ M) = flatV L ++ flatV M := by simp [flatV]
theorem segL_shift {α : Type} {a l : List α} : ∀ {n i : Nat}, segL (a ++ l) (a.length + i) n = segL l i n
  | 0, i => rfl
  | n + 1, i => by
    simp only [segL]
    rw [List.getElem?_append_right (by omega), Nat.add_sub_cancel_left, show a.length + i + 1 = a.length + (i + 1) by omega, segL_shift]
theorem segL_pre {α : Type} {l : List α} : ∀ {a : List α}, segL (a ++ l) 0 a.length = some a
  | [] => rfl
  | v :: a => by
    have h := segL_shift (a := [v]) (l := a ++ l) (n := a.length) (i := 0)
    rw [segL_pre (a := a)] at h
    have h2 : segL (v :: (a ++ l)) 1 a.length = some a := by simpa using h
    show segL (v :: (a ++ l)) 0 (a.length + 1) = _
    simp only [segL, List.getElem?_cons_zero]
    rw [h2]
structure Wd (w : Nat) (L : List (List Int)) : Prop where
  len : ∀ r ∈ L, r.length = w
  fit : ∀ r ∈ L, ∀ x ∈ r, -9223372036854775808 ≤ x ∧ x < 9223372036854775808
theorem Wd.nil {w : Nat} : Wd w [] := ⟨fun _ h => (by cases h), fun _ h => (by cases h)⟩
theorem Wd.app {w : Nat} {L M : List (List Int)} (h : Wd w L) (k : Wd w M) : Wd w (L ++ M) :=
  ⟨fun r hr => (List.mem_append.1 hr).elim (h.len r) (k.len r), fun r hr => (List.mem_append.1 hr).elim (h.fit r) (k.fit r)⟩
theorem Wd.two {a b : Int} (ha : I64 a) (hb : I64 b) : Wd 2 [[a, b]] :=
  ⟨fun r hr => by rw [List.mem_singleton.1 hr]; rfl, fun r hr x hx => by
    rw [List.mem_singleton.1 hr] at hx
    rcases List.mem_cons.1 hx with rfl | hx
    · exact ha
    · rw [List.mem_singleton.1 hx]; exact hb⟩
theorem flatV_len {w : Nat} : ∀ {L : List (List Int)}, (∀ r ∈ L, r.length = w) → (flatV L).length = L.length * w
  | [], _ => by simp [flatV]
  | r :: L, h => by
    have h1 := flatV_len (L := L) (fun x hx => h x (List.mem_cons_of_mem _ hx))
    have h2 := h r (List.mem_cons_self ..)
    have h3 : flatV (r :: L) = r.map (.int .i64) ++ flatV L := by simp [flatV]
    rw [h3, List.length_append, h1, List.length_map, h2, List.length_cons, Nat.add_mul]; omega
theorem flat_seg {w : Nat} : ∀ {L : List (List Int)} {i : Nat} {r : List Int}, (∀ r ∈ L, r.length = w) → L[i]? = some r → segL (flatV L) (i * w) w = some (r.map (.int .i64))
  | [], i, r, _, h => by simp at h
  | r' :: L, 0, r, hw, h => by
    simp only [List.getElem?_cons_zero, Option.some.injEq] at h
    subst h
    have h3 : flatV (r' :: L) = r'.map (.int .i64) ++ flatV L := by simp [flatV]
    have h4 : (r'.map (Value.int .i64)).length = w := by rw [List.length_map]; exact hw r' (List.mem_cons_self ..)
    rw [h3, Nat.zero_mul]
    have := segL_pre (l := flatV L) (a := r'.map (Value.int .i64))
    rwa [h4] at this
  | r' :: L, i + 1, r, hw, h => by
    have h3 : flatV (r' :: L) = r'.map (.int .i64) ++ flatV L := by simp [flatV]
    have h4 : (r'.map (Value.int .i64)).length = w := by rw [List.length_map]; exact hw r' (List.mem_cons_self ..)
    have ih := flat_seg (L := L) (i := i) (r := r) (fun x hx => hw x (List.mem_cons_of_mem _ hx)) (by simpa using h)
    have := segL_shift (a := r'.map (Value.int .i64)) (l := flatV L) (n := w) (i := i * w)
    rw [h4] at this
    rw [h3, Nat.add_mul, Nat.one_mul, Nat.add_comm, this, ih]
theorem RowsE.ownF {s : St} {b e w : Nat} {op : Bool} {L : List (List Int)} (h : Obj s b e op (flatV L)) (hw : Wd w L) (hl : L.length < 140737488355328) : RowsE s w (some ⟨b, 0, none⟩) L :=
  ⟨fun c hc => by cases hc; rfl, fun _ => ⟨b, 0, rfl⟩, fun c o hc i r hr => by
    cases hc
    rw [Nat.zero_add]
    exact h.ats (segL_eq (flat_seg hw.len hr)).2, hw.len, hw.fit, hl⟩
theorem RowsE.nil {s : St} {w : Nat} : RowsE s w none [] := ⟨fun b h => (by cases h), fun h => absurd rfl h, fun b o h => (by cases h), fun r h => (by cases h), fun r h => (by cases h), by decide⟩
/-! Where a row stands in a list. -/
def ixN (x : List Int) : List (List Int) → Nat
  | [] => 0
  | r :: L => if r = x then 0 else ixN x L + 1
theorem ixN_hit {x : List Int} : ∀ {L : List (List Int)} {k : Nat}, x ∉ L.take k → L[k]? = some x → ixN x L = k
  | [], k, _, h => by simp at h
  | r :: L, 0, _, h => by
    simp only [List.getElem?_cons_zero, Option.some.injEq] at h
    unfold ixN; rw [if_pos h]
  | r :: L, k + 1, h1, h => by
    have h2 : ¬ r = x := fun e => h1 (by rw [List.take_succ_cons, e]; exact List.mem_cons_self ..)
    unfold ixN; rw [if_neg h2, ixN_hit (k := k) (fun q => h1 (by rw [List.take_succ_cons]; exact List.mem_cons_of_mem _ q)) (by simpa using h)]
theorem ixN_lt {x : List Int} : ∀ {L : List (List Int)}, x ∈ L → ixN x L < L.length
  | r :: L, h => by
    unfold ixN
    by_cases hr : r = x
    · rw [if_pos hr]; simp
    · rw [if_neg hr]
      have := ixN_lt (L := L) ((List.mem_cons.1 h).resolve_left (fun e => hr e.symm))
      simp; omega
def idxI (L : List (List Int)) (x : List Int) : Int := if x ∈ L then (ixN x L : Int) else -1
theorem ix_next {L : List (List Int)} {k : Nat} {x r : List Int} (h : x ∉ L.take k) (hr : L[k]? = some r) (hne : ¬ x = r) : x ∉ L.take (k + 1) := by
  rw [List.take_add_one, hr]; simp [h, hne]
theorem ix_hit {L : List (List Int)} {k : Nat} {x r : List Int} (h : x ∉ L.take k) (hr : L[k]? = some r) (he : x = r) : idxI L x = (k : Int) := by
  subst he
  unfold idxI
  rw [if_pos (List.mem_of_getElem? hr), ixN_hit h hr]
theorem ix_end {L : List (List Int)} {k : Nat} {x : List Int} (h : x ∉ L.take k) (hk : L.length ≤ k) : x ∉ L := by rwa [List.take_of_length_le hk] at h
theorem ix_miss {L : List (List Int)} {k : Nat} {x : List Int} (h : x ∉ L.take k) (hk : L.length ≤ k) : idxI L x = -1 := if_neg (ix_end h hk)
theorem ix_ge {L : List (List Int)} {x : List Int} (h : 0 ≤ idxI L x) : x ∈ L := by
  unfold idxI at h
  split at h
  · assumption
  · omega
theorem ix_lt {L : List (List Int)} {x : List Int} (h : idxI L x < 0) : x ∉ L := by
  unfold idxI at h
  split at h
  · omega
  · assumption
/-! The tape days of readings. -/
def dstep (D : List (List Int)) (r : List Int) : List (List Int) := if [r.getD 5 0, r.getD 6 0] ∈ D then D else D ++ [[r.getD 5 0, r.getD 6 0]]
def dys (rs : List (List Int)) : List (List Int) := rs.foldl dstep []
theorem dys_at {rs : List (List Int)} {k : Nat} {x0 x1 x2 x3 x4 x5 x6 : Int} (h : rs[k]? = some [x0, x1, x2, x3, x4, x5, x6]) : dys (rs.take (k + 1)) = if [x5, x6] ∈ dys (rs.take k) then dys (rs.take k) else dys (rs.take k) ++ [[x5, x6]] := by
  unfold dys
  rw [List.take_add_one, h, List.foldl_append]; rfl
theorem dys_in {rs D : List (List Int)} {k : Nat} {x0 x1 x2 x3 x4 x5 x6 : Int} (h : rs[k]? = some [x0, x1, x2, x3, x4, x5, x6]) (hD : D = dys (rs.take k)) (hm : [x5, x6] ∈ D) : D = dys (rs.take (k + 1)) := by
  subst hD; rw [dys_at h, if_pos hm]
theorem dys_out {rs D : List (List Int)} {k : Nat} {x0 x1 x2 x3 x4 x5 x6 : Int} (h : rs[k]? = some [x0, x1, x2, x3, x4, x5, x6]) (hD : D = dys (rs.take k)) (hm : [x5, x6] ∉ D) : D ++ [[x5, x6]] = dys (rs.take (k + 1)) := by
  subst hD; rw [dys_at h, if_neg hm]
theorem dys_all {rs D : List (List Int)} {k : Nat} (hD : D = dys (rs.take k)) (hk : rs.length ≤ k) : D = dys rs := by rwa [List.take_of_length_le hk] at hD
theorem dys_one {rs : List (List Int)} {x0 x1 x2 x3 x4 x5 x6 : Int} (h : rs[0]? = some [x0, x1, x2, x3, x4, x5, x6]) : [[x5, x6]] = dys (rs.take (0 + 1)) := by rw [dys_at h]; rfl

section
variable {X : FuncId → List Value → St → (Value → St → Bool) → Bool}
theorem dayOf_s (n : Nat) (x0 x1 x2 x3 x4 x5 x6 : Int) (s : St) (hs : Wf s) : Spec Tryz.prog (tabK tabw) X (n + 40) 66 [.agg ⟨[.int .i64 x0, .int .i64 x1, .int .i64 x2, .int .i64 x3, .int .i64 x4, .int .i64 x5, .int .i64 x6]⟩] s (fun v A => v = .agg ⟨[.int .i64 x5, .int .i64 x6]⟩ ∧ A = []) := by
 refine enter bw66_at rfl hs ?_
 unfold bw66
 refine rS (kO rfl (a_box rfl rfl rfl (fun b1 => (kO rfl (a_new rfl rfl (fun b2 => (i_nil (rS (kO rfl (a_fa rfl (kO rfl (a_ld rfl (.next .here) rfl (kO rfl (a_fa rfl (kO rfl (a_ld rfl (.next .here) rfl (kO rfl (a_build rfl rfl (kZ rfl (a_sta rfl rfl .here rfl rfl rfl rfl (i_nil (r_ret ?_))))))))))))))))))))))
 exact ⟨rfl, [_], [], ⟨_, _, _, [], rfl, rfl, by decide, ⟨_, _, _, .here, rfl⟩, rfl⟩, List.nil_sublist _, rfl, rfl⟩

theorem Index_s (n : Nat) (a : Option Addr) (cap : Nat) (L : List (List Int)) (dt de : Int) (s : St) (hs : Wf s) (hn : 281474976710656 ≤ n) (hL : RowsE s 2 a L) : Spec Tryz.prog (tabK tabw) X (n + 100) 154 [.slice a L.length cap, .agg ⟨[.int .i64 dt, .int .i64 de]⟩] s (fun v A => v = .int .i64 (idxI L [dt, de]) ∧ A = []) := by
 refine enter bw154_at rfl hs ?_
 unfold bw154
 have hlen := hL.len
 refine rS (kO rfl (a_box rfl rfl rfl (fun b1 => (kM rfl rfl (i_nil (rQ (rS (kM rfl rfl (kO rfl (a_lenx rfl hL.spot (kM rfl rfl (i_nil (r_block (r_loop (fun j e A => ∃ (k : Nat), e = [(0, .slice a L.length cap), (3, .pointer (some ⟨b1, 0, none⟩)), (7, .int .i64 (L.length : Int)), (8, .int .i64 (k : Int))] ∧ A = (.row b1 71 false ([.int .i64 dt, .int .i64 de]) :: []) ∧ j = L.length - k ∧ k ≤ L.length ∧ [dt, de] ∉ L.take k) 70 0 281474976710656 ?_ (j := _) (env2 := _) (A2 := _) ?_ ?_ ?_ ?_ ⟨0, rfl, rfl, rfl, Nat.zero_le _, (by simp)⟩))))))))))))))
 rotate_left
 ·omega
 ·omega
 ·exact (lc 0 rfl (lc 3 rfl (lc 7 rfl (lc 8 rfl Less.nil))))
 ·exact (.cons_cons _ .slnil)
 rintro n hn j _ _ ⟨k, rfl, rfl, rfl, hk, hm⟩
 refine rS (kO rfl (a_lss rfl rfl (fun h2 => ?_) (fun h2 => ?_)))
 ·obtain ⟨q2, o2, p, q, ahL, hx, hat, i0, i1⟩ := hL.row2 (k := k) (by omega)
  have hat2 := hat
  obtain ⟨d0, d1, _⟩ := hat2
  refine i_nil (rQ (r_cond_t rfl (r_skip (then_n (rQ (r_block (rS (kM rfl rfl (kM rfl rfl (i_nil (rS (kO rfl (a_lda rfl (by decide) .here rfl (kM rfl rfl (kM rfl rfl (kO rfl (a_iaA ahL rfl rfl rfl (by first | decide | omega) (kO rfl (a_ldar rfl (by decide) (by assumption) rfl (kO rfl (a_eqS rfl rfl ⟨eqTD _ _ _ _, rfl⟩ (fun h3 => ?_) (fun h3 => ?_))))))))))))))))))))))
  ·refine i_nil (r_cond_t rfl (rS (kM rfl rfl (kM rfl rfl (i_nil (r_ret (block_r (then_r (then_r (block_r (then_r (end1 rfl ⟨congrArg (Value.int .i64) ?_, rfl⟩))))))))))))
   first
    | exact (ix_miss hm (by omega)).symm
    | exact (ix_hit hm hx (of_decide_eq_true (by assumption))).symm
  ·refine i_nil (r_cond_f rfl (r_skip (block_n (then_n (rI (kO rfl (a_add rfl rfl (by omega) (kM rfl rfl (i_nil (then_n ?_))))))))))
   exact ⟨rfl, _, _, _, (show L.length - (k + 1) < L.length - k by omega), (lc 0 rfl (lc 3 rfl (lc 7 rfl (lc 8 rfl Less.nil)))), (.cons_cons _ .slnil), ⟨k + 1, rfl, rfl, rfl, by omega, ix_next hm hx (of_decide_eq_false (by assumption))⟩⟩
 ·refine i_nil (rQ (r_cond_f rfl (r_exit (then_e (then_e (block_hit (then_n (rS (kM rfl rfl (i_nil (r_ret (end1 rfl ⟨congrArg (Value.int .i64) ?_, rfl⟩))))))))))))
  first
   | exact (ix_miss hm (by omega)).symm
   | exact (ix_hit hm hx (of_decide_eq_true (by assumption))).symm

theorem Contains_s (n : Nat) (a : Option Addr) (cap : Nat) (L : List (List Int)) (dt de : Int) (s : St) (hs : Wf s) (hn : 281474976710656 ≤ n) (hL : RowsE s 2 a L) : Spec Tryz.prog (tabK tabw) X (n + 150) 113 [.slice a L.length cap, .agg ⟨[.int .i64 dt, .int .i64 de]⟩] s (fun v A => v = .bool (decide ([dt, de] ∈ L)) ∧ A = []) := by
 refine enter bw113_at rfl hs ?_
 unfold bw113
 refine rS (kO rfl (a_box rfl rfl rfl (fun b1 => (kM rfl rfl (i_nil (rS (kM rfl rfl (kO rfl (a_lda rfl (by decide) .here rfl (kO rfl (a_callV rfl rfl (fun s1 h1 => Index_s _ _ _ _ _ _ s1 h1.wf (by omega) (hL.ext hs h1.2.1)) (kO rfl (a_geq rfl rfl (fun h2 => ?_) (fun h2 => ?_))))))))))))))
 ·refine kM rfl rfl (i_nil (r_ret (end1 rfl ⟨congrArg Value.bool ?_, rfl⟩)))
  first | exact (decide_eq_true (ix_ge (by assumption))).symm | exact (decide_eq_false (ix_lt (by omega))).symm
 ·refine kM rfl rfl (i_nil (r_ret (end1 rfl ⟨congrArg Value.bool ?_, rfl⟩)))
  first | exact (decide_eq_true (ix_ge (by assumption))).symm | exact (decide_eq_false (ix_lt (by omega))).symm

theorem index_s (n : Nat) (a : Option Addr) (cap : Nat) (L : List (List Int)) (dt de : Int) (s : St) (hs : Wf s) (hn : 281474976710656 ≤ n) (hL : RowsE s 2 a L) : Spec Tryz.prog (tabK tabw) X (n + 100) 72 [.slice a L.length cap, .agg ⟨[.int .i64 dt, .int .i64 de]⟩] s (fun v A => v = .int .i64 (idxI L [dt, de]) ∧ A = []) := by
 refine enter bw72_at rfl hs ?_
 unfold bw72
 have hlen := hL.len
 refine rS (kO rfl (a_box rfl rfl rfl (fun b1 => (kM rfl rfl (i_nil (rQ (rS (kM rfl rfl (i_nil (r_block (r_loop (fun j e A => ∃ (k : Nat), e = [(0, .slice a L.length cap), (3, .pointer (some ⟨b1, 0, none⟩)), (5, .int .i64 (k : Int))] ∧ A = (.row b1 71 false ([.int .i64 dt, .int .i64 de]) :: []) ∧ j = L.length - k ∧ k ≤ L.length ∧ [dt, de] ∉ L.take k) 70 0 281474976710656 ?_ (j := _) (env2 := _) (A2 := _) ?_ ?_ ?_ ?_ ⟨0, rfl, rfl, rfl, Nat.zero_le _, (by simp)⟩)))))))))))
 rotate_left
 ·omega
 ·omega
 ·exact (lc 0 rfl (lc 3 rfl (lc 5 rfl Less.nil)))
 ·exact (.cons_cons _ .slnil)
 rintro n hn j _ _ ⟨k, rfl, rfl, rfl, hk, hm⟩
 refine rQ (rS (kM rfl rfl (kM rfl rfl (kO rfl (a_lenx rfl hL.spot (kO rfl (a_lss rfl rfl (fun h2 => ?_) (fun h2 => ?_))))))))
 ·obtain ⟨q2, o2, p, q, ahL, hx, hat, i0, i1⟩ := hL.row2 (k := k) (by omega)
  have hat2 := hat
  obtain ⟨d0, d1, _⟩ := hat2
  refine i_nil (r_cond_t rfl (r_skip (then_n (rQ (r_block (rS (kM rfl rfl (kM rfl rfl (kO rfl (a_iaA ahL rfl rfl rfl (by first | decide | omega) (kO rfl (a_ldar rfl (by decide) (by assumption) rfl (kO rfl (a_lda rfl (by decide) .here rfl (kO rfl (a_eqS rfl rfl ⟨eqTD _ _ _ _, rfl⟩ (fun h3 => ?_) (fun h3 => ?_)))))))))))))))))
  ·refine i_nil (r_cond_t rfl (rS (kM rfl rfl (kM rfl rfl (i_nil (r_ret (block_r (then_r (then_r (block_r (then_r (end1 rfl ⟨congrArg (Value.int .i64) ?_, rfl⟩))))))))))))
   first
    | exact (ix_miss hm (by omega)).symm
    | exact (ix_hit hm hx (Eq.symm (of_decide_eq_true (by assumption)))).symm
  ·refine i_nil (r_cond_f rfl (r_skip (block_n (then_n (rI (kM rfl rfl (kO rfl (a_add rfl rfl (by omega) (kM rfl rfl (i_nil (then_n ?_)))))))))))
   exact ⟨rfl, _, _, _, (show L.length - (k + 1) < L.length - k by omega), (lc 0 rfl (lc 3 rfl (lc 5 rfl Less.nil))), (.cons_cons _ .slnil), ⟨k + 1, rfl, rfl, rfl, by omega, ix_next hm hx (fun q => absurd q.symm (of_decide_eq_false (by assumption)))⟩⟩
 ·refine i_nil (r_cond_f rfl (r_exit (then_e (then_e (block_hit (then_n (rS (kM rfl rfl (i_nil (r_ret (end1 rfl ⟨congrArg (Value.int .i64) ?_, rfl⟩)))))))))))
  first
   | exact (ix_miss hm (by omega)).symm
   | exact (ix_hit hm hx (Eq.symm (of_decide_eq_true (by assumption)))).symm

theorem daysOf_s (n : Nat) (a : Option Addr) (cap : Nat) (rs : List (List Int)) (s : St) (hs : Wf s) (hn : 844424930131968 ≤ n) (hr : RowsE s 7 a rs) (h60 : rs.length ≤ 60) : Spec Tryz.prog (tabK tabw) X (n + 700) 75 [.slice a rs.length cap] s (fun v A => (rs = [] ∧ v = .slice none 0 0 ∧ A = []) ∨ (rs ≠ [] ∧ ∃ b, v = .slice (some ⟨b, 0, none⟩) (dys rs).length OPEN ∧ A = [.row b 71 true (flatV (dys rs))] ∧ Wd 2 (dys rs) ∧ (dys rs).length ≤ rs.length)) := by
 refine enter bw75_at rfl hs ?_
 unfold bw75
 have hlen := hr.len
 refine rS (kM rfl rfl (i_nil (rS (kM rfl rfl (i_nil (rQ (rS (kM rfl rfl (kO rfl (a_lenx rfl hr.spot (kM rfl rfl (i_nil (r_block (r_unroll (rS (kO rfl (a_lss rfl rfl (fun h1 => ?_) (fun h1 => ?_))))))))))))))))))
 ·obtain ⟨q7, o7, x0, x1, x2, x3, x4, x5, x6, ahr, hx, hat, i0, i1, i2, i3, i4, i5, i6⟩ := hr.row7 (k := 0) (by omega)
  have hat2 := hat
  obtain ⟨d0, d1, d2, d3, d4, d5, d6, _⟩ := hat2
  have := i0.lo; have := i0.hi
  have := i1.lo; have := i1.hi
  have := i2.lo; have := i2.hi
  have := i3.lo; have := i3.hi
  have := i4.lo; have := i4.hi
  have := i5.lo; have := i5.hi
  have := i6.lo; have := i6.hi
  have hne : rs ≠ [] := by rintro rfl; simp at hx
  refine i_nil (rQ (r_cond_t rfl (r_skip (then_n (rQ (r_block (rS (kO rfl (a_iaA (j := 0) ahr rfl rfl (by first | rfl | omega) (by first | decide | omega) (kO rfl (a_ldar rfl (by decide) (by assumption) rfl (kO rfl (a_new rfl rfl (fun b2 => (kZ rfl (a_sta rfl rfl .here rfl rfl rfl rfl (i_nil (rS (kO rfl (a_lda rfl (by decide) .here rfl (kO rfl (a_callV rfl rfl (fun s1 h1 => dayOf_s _ _ _ _ _ _ _ _ s1 h1.wf) (kO rfl (a_new rfl rfl (fun b3 => (kZ rfl (a_sta rfl rfl .here rfl rfl rfl rfl (i_nil (rS (kM rfl rfl (kO rfl (a_lda rfl (by decide) .here rfl (kO rfl (a_callB rfl rfl (fun s1 h1 => Contains_s _ _ _ _ _ _ s1 h1.wf (by omega) RowsE.nil) (fun h4 => ?_) (fun h4 => ?_)))))))))))))))))))))))))))))))))))
  ·exact absurd h4 (by simp)
  ·refine kO rfl (a_not rfl (i_nil (r_cond_t rfl (rI (kM rfl rfl (kO rfl (a_lda rfl (by decide) .here rfl (kO rfl (a_lit rfl rfl rfl (fun b5 => (kO rfl (a_appn rfl rfl (Src.own .here rfl (by simp)) (by decide) (by omega) (by omega) (fun b6 => (kM rfl rfl (i_nil (block_n (then_n (rI (kO rfl (a_add rfl rfl (by decide) (kM rfl rfl (i_nil (then_n (r_loop (fun j e A => ∃ (k b : Nat) (D : List (List Int)), e = [(7, .slice a rs.length cap), (8, .int .i64 (rs.length : Int)), (9, .int .i64 (k : Int)), (3, .slice (some ⟨b, 0, none⟩) D.length OPEN)] ∧ A = (.row b 71 true (flatV D) :: []) ∧ j = rs.length - k ∧ k ≤ rs.length ∧ D = dys (rs.take k) ∧ D.length ≤ k ∧ Wd 2 D) 400 562949953421312 281474976710656 ?_ (j := _) (env2 := _) (A2 := _) ?_ ?_ ?_ ?_ ⟨0 + 1, b6, [[x5, x6]], rfl, rfl, rfl, (by omega), dys_one hx, (by simp), Wd.two i5 i6⟩))))))))))))))))))))))))
   rotate_left
   ·omega
   ·omega
   ·exact (lc 7 rfl (lc 8 rfl (lc 9 rfl (lc 3 rfl Less.nil))))
   ·exact (.cons_cons _ (.cons _ (.cons _ (.cons _ .slnil))))
   rintro n hn j _ _ ⟨k, b, D, rfl, rfl, rfl, hk, hD, hDl, hW⟩
   refine rS (kO rfl (a_lss rfl rfl (fun h7 => ?_) (fun h7 => ?_)))
   ·obtain ⟨q7, o7, x0, x1, x2, x3, x4, x5, x6, ahr, hx, hat, i0, i1, i2, i3, i4, i5, i6⟩ := hr.row7 (k := k) (by omega)
    have hat2 := hat
    obtain ⟨d0, d1, d2, d3, d4, d5, d6, _⟩ := hat2
    have := i0.lo; have := i0.hi
    have := i1.lo; have := i1.hi
    have := i2.lo; have := i2.hi
    have := i3.lo; have := i3.hi
    have := i4.lo; have := i4.hi
    have := i5.lo; have := i5.hi
    have := i6.lo; have := i6.hi
    refine i_nil (rQ (r_cond_t rfl (r_skip (then_n (rQ (r_block (rS (kO rfl (a_iaA ahr rfl rfl rfl (by first | decide | omega) (kO rfl (a_ldar rfl (by decide) (by assumption) rfl (kO rfl (a_new rfl rfl (fun b8 => (kZ rfl (a_sta rfl rfl .here rfl rfl rfl rfl (i_nil (rS (kO rfl (a_lda rfl (by decide) .here rfl (kO rfl (a_callV rfl rfl (fun s1 h1 => dayOf_s _ _ _ _ _ _ _ _ s1 h1.wf) (kO rfl (a_new rfl rfl (fun b9 => (kZ rfl (a_sta rfl rfl .here rfl rfl rfl rfl (i_nil (rS (kM rfl rfl (kO rfl (a_lda rfl (by decide) .here rfl (kO rfl (a_callB rfl rfl (fun s1 h1 => Contains_s _ _ _ _ _ _ s1 h1.wf (by omega) (RowsE.ownF (h1.own (.next (.next .here))) hW (by omega))) (fun h10 => ?_) (fun h10 => ?_)))))))))))))))))))))))))))))))))))
    ·refine kO rfl (a_not rfl (i_nil (r_cond_f rfl (r_skip (block_n (then_n (rI (kO rfl (a_add rfl rfl (by omega) (kM rfl rfl (i_nil (then_n ?_))))))))))))
     exact ⟨rfl, _, _, _, (show rs.length - (k + 1) < rs.length - k by omega), (lc 7 rfl (lc 8 rfl (lc 9 rfl (lc 3 rfl Less.nil)))), (.cons _ (.cons _ (.cons_cons _ .slnil))), ⟨k + 1, b, D, rfl, rfl, rfl, by omega, dys_in hx hD (by assumption), (by omega), hW⟩⟩
    ·refine kO rfl (a_not rfl (i_nil (r_cond_t rfl (rI (kM rfl rfl (kO rfl (a_lda rfl (by decide) .here rfl (kO rfl (a_lit rfl rfl rfl (fun b11 => (kO rfl (a_app rfl rfl (Src.own .here rfl (by simp)) (.next (.next (.next .here))) (by rw [flatV_len hW.len]) (.inl ⟨rfl, rfl⟩) (by decide) (by omega) (by omega) (fun b12 => (kM rfl rfl (i_nil (block_n (then_n (rI (kO rfl (a_add rfl rfl (by omega) (kM rfl rfl (i_nil (then_n ?_)))))))))))))))))))))))
     exact ⟨rfl, _, _, _, (show rs.length - (k + 1) < rs.length - k by omega), (lc 7 rfl (lc 8 rfl (lc 9 rfl (lc 3 rfl Less.nil)))), (.cons_cons _ (.cons _ (.cons _ (.cons _ .slnil)))), ⟨k + 1, b12, D ++ [[x5, x6]], (by simp), (by rw [flatV_app]; rfl), rfl, by omega, dys_out hx hD (by assumption), (by simp; omega), hW.app (Wd.two i5 i6)⟩⟩
   ·refine i_nil (rQ (r_cond_f rfl (r_exit (then_e (then_e (block_hit (then_n (rS (kM rfl rfl (kM rfl rfl (i_nil (r_ret ?_))))))))))))
    have hDe := dys_all hD (by omega)
    subst hDe
    exact end1A rfl (.cons_cons _ .slnil) (.inr ⟨hne, b, rfl, rfl, hW, by omega⟩)
 ·refine i_nil (rQ (r_cond_f rfl (r_exit (then_e (then_e (block_hit (then_n (rS (kM rfl rfl (kM rfl rfl (i_nil (r_ret ?_))))))))))))
  exact end1A rfl (List.nil_sublist _) (.inl ⟨List.eq_nil_of_length_eq_zero (by omega), rfl, rfl⟩)

theorem tapes_s (n : Nat) (a : Option Addr) (cap : Nat) (rs : List (List Int)) (s : St) (hs : Wf s) (hn : 844424930131968 ≤ n) (hr : RowsE s 7 a rs) (h60 : rs.length ≤ 60) : Spec Tryz.prog (tabK tabw) X (n + 700) 34 [.slice a rs.length cap] s (fun v A => (rs = [] ∧ v = .slice none 0 0 ∧ A = []) ∨ (rs ≠ [] ∧ ∃ b, v = .slice (some ⟨b, 0, none⟩) (dys rs).length OPEN ∧ A = [.row b 71 true (flatV (dys rs))] ∧ Wd 2 (dys rs) ∧ (dys rs).length ≤ rs.length)) := by
 refine enter bw34_at rfl hs ?_
 unfold bw34
 have hlen := hr.len
 refine rS (kM rfl rfl (i_nil (rS (kM rfl rfl (i_nil (rQ (rS (kM rfl rfl (i_nil (r_block (r_unroll (rQ (rS (kM rfl rfl (kM rfl rfl (kO rfl (a_lenx rfl hr.spot (kO rfl (a_lss rfl rfl (fun h1 => ?_) (fun h1 => ?_))))))))))))))))))))
 ·obtain ⟨q7, o7, x0, x1, x2, x3, x4, x5, x6, ahr, hx, hat, i0, i1, i2, i3, i4, i5, i6⟩ := hr.row7 (k := 0) (by omega)
  have hat2 := hat
  obtain ⟨d0, d1, d2, d3, d4, d5, d6, _⟩ := hat2
  have := i0.lo; have := i0.hi
  have := i1.lo; have := i1.hi
  have := i2.lo; have := i2.hi
  have := i3.lo; have := i3.hi
  have := i4.lo; have := i4.hi
  have := i5.lo; have := i5.hi
  have := i6.lo; have := i6.hi
  have hne : rs ≠ [] := by rintro rfl; simp at hx
  refine i_nil (r_cond_t rfl (r_skip (then_n (rQ (r_block (rS (kM rfl rfl (kM rfl rfl (kO rfl (a_iaA (j := 0) ahr rfl rfl (by first | rfl | omega) (by first | decide | omega) (kO rfl (a_fa rfl (kO rfl (a_ldr rfl (by assumption) (kM rfl rfl (kM rfl rfl (kO rfl (a_iaA (j := 0) ahr rfl rfl (by first | rfl | omega) (by first | decide | omega) (kO rfl (a_fa rfl (kO rfl (a_ldr rfl (by assumption) (kO rfl (a_build rfl rfl (kO rfl (a_new rfl rfl (fun b2 => (kZ rfl (a_sta rfl rfl .here rfl rfl rfl rfl (i_nil (rS (kM rfl rfl (kO rfl (a_lda rfl (by decide) .here rfl ?_))))))))))))))))))))))))))))))))))
  refine kO rfl (a_callV rfl rfl (fun s1 h1 => index_s _ _ _ _ _ _ s1 h1.wf (by omega) RowsE.nil) (kO rfl (a_lss rfl rfl (fun h3 => ?_) (fun h3 => ?_))))
  ·have hnm := ix_lt h3
   refine i_nil (r_cond_t rfl (rI (kM rfl rfl (kO rfl (a_lda rfl (by decide) .here rfl (kO rfl (a_lit rfl rfl rfl (fun b4 => (kO rfl (a_appn rfl rfl (Src.own .here rfl (by simp)) (by decide) (by omega) (by omega) (fun b5 => (kM rfl rfl (i_nil (block_n (then_n (rI (kM rfl rfl (kO rfl (a_add rfl rfl (by decide) (kM rfl rfl (i_nil (then_n (r_loop (fun j e A => ∃ (k b : Nat) (D : List (List Int)), e = [(0, .slice a rs.length cap), (4, .int .i64 (k : Int)), (3, .slice (some ⟨b, 0, none⟩) D.length OPEN)] ∧ A = (.row b 71 true (flatV D) :: []) ∧ j = rs.length - k ∧ k ≤ rs.length ∧ D = dys (rs.take k) ∧ D.length ≤ k ∧ Wd 2 D) 400 562949953421312 281474976710656 ?_ (j := _) (env2 := _) (A2 := _) ?_ ?_ ?_ ?_ ⟨0 + 1, b5, [[x5, x6]], rfl, rfl, rfl, (by omega), dys_one hx, (by simp), Wd.two i5 i6⟩)))))))))))))))))))))))
   rotate_left
   ·omega
   ·omega
   ·exact (lc 0 rfl (lc 4 rfl (lc 3 rfl Less.nil)))
   ·exact (.cons_cons _ (.cons _ (.cons _ .slnil)))
   rintro n hn j _ _ ⟨k, b, D, rfl, rfl, rfl, hk, hD, hDl, hW⟩
   refine rQ (rS (kM rfl rfl (kM rfl rfl (kO rfl (a_lenx rfl hr.spot (kO rfl (a_lss rfl rfl (fun h6 => ?_) (fun h6 => ?_))))))))
   ·obtain ⟨q7, o7, x0, x1, x2, x3, x4, x5, x6, ahr, hx, hat, i0, i1, i2, i3, i4, i5, i6⟩ := hr.row7 (k := k) (by omega)
    have hat2 := hat
    obtain ⟨d0, d1, d2, d3, d4, d5, d6, _⟩ := hat2
    have := i0.lo; have := i0.hi
    have := i1.lo; have := i1.hi
    have := i2.lo; have := i2.hi
    have := i3.lo; have := i3.hi
    have := i4.lo; have := i4.hi
    have := i5.lo; have := i5.hi
    have := i6.lo; have := i6.hi
    refine i_nil (r_cond_t rfl (r_skip (then_n (rQ (r_block (rS (kM rfl rfl (kM rfl rfl (kO rfl (a_iaA ahr rfl rfl rfl (by first | decide | omega) (kO rfl (a_fa rfl (kO rfl (a_ldr rfl (by assumption) (kM rfl rfl (kM rfl rfl (kO rfl (a_iaA ahr rfl rfl rfl (by first | decide | omega) (kO rfl (a_fa rfl (kO rfl (a_ldr rfl (by assumption) (kO rfl (a_build rfl rfl (kO rfl (a_new rfl rfl (fun b7 => (kZ rfl (a_sta rfl rfl .here rfl rfl rfl rfl (i_nil (rS (kM rfl rfl (kO rfl (a_lda rfl (by decide) .here rfl ?_))))))))))))))))))))))))))))))))))
    refine kO rfl (a_callV rfl rfl (fun s1 h1 => index_s _ _ _ _ _ _ s1 h1.wf (by omega) (RowsE.ownF (h1.own (.next .here)) hW (by omega))) (kO rfl (a_lss rfl rfl (fun h8 => ?_) (fun h8 => ?_))))
    ·have hnm := ix_lt h8
     refine i_nil (r_cond_t rfl (rI (kM rfl rfl (kO rfl (a_lda rfl (by decide) .here rfl (kO rfl (a_lit rfl rfl rfl (fun b9 => (kO rfl (a_app rfl rfl (Src.own .here rfl (by simp)) (.next (.next .here)) (by rw [flatV_len hW.len]) (.inl ⟨rfl, rfl⟩) (by decide) (by omega) (by omega) (fun b10 => (kM rfl rfl (i_nil (block_n (then_n (rI (kM rfl rfl (kO rfl (a_add rfl rfl (by omega) (kM rfl rfl (i_nil (then_n ?_))))))))))))))))))))))
     exact ⟨rfl, _, _, _, (show rs.length - (k + 1) < rs.length - k by omega), (lc 0 rfl (lc 4 rfl (lc 3 rfl Less.nil))), (.cons_cons _ (.cons _ (.cons _ .slnil))), ⟨k + 1, b10, D ++ [[x5, x6]], (by simp), (by rw [flatV_app]; rfl), rfl, by omega, dys_out hx hD (by assumption), (by simp; omega), hW.app (Wd.two i5 i6)⟩⟩
    ·have hmm := ix_ge (show 0 ≤ idxI D [x5, x6] by omega)
     refine i_nil (r_cond_f rfl (r_skip (block_n (then_n (rI (kM rfl rfl (kO rfl (a_add rfl rfl (by omega) (kM rfl rfl (i_nil (then_n ?_)))))))))))
     exact ⟨rfl, _, _, _, (show rs.length - (k + 1) < rs.length - k by omega), (lc 0 rfl (lc 4 rfl (lc 3 rfl Less.nil))), (.cons _ (.cons_cons _ .slnil)), ⟨k + 1, b, D, rfl, rfl, rfl, by omega, dys_in hx hD (by assumption), (by omega), hW⟩⟩
   ·refine i_nil (r_cond_f rfl (r_exit (then_e (then_e (block_hit (then_n (rS (kM rfl rfl (kM rfl rfl (i_nil (r_ret ?_)))))))))))
    have hDe := dys_all hD (by omega)
    subst hDe
    exact end1A rfl (.cons_cons _ .slnil) (.inr ⟨hne, b, rfl, rfl, hW, by omega⟩)
  ·exfalso; simp [idxI] at h3
 ·refine i_nil (r_cond_f rfl (r_exit (then_e (then_e (block_hit (then_n (rS (kM rfl rfl (kM rfl rfl (i_nil (r_ret ?_)))))))))))
  exact end1A rfl (List.nil_sublist _) (.inl ⟨List.eq_nil_of_length_eq_zero (by omega), rfl, rfl⟩)

end
end Ev
end Go.Proofs.YtfhfjcfhanmbiaaGreat

/- Contracts: limits of surveys: parts. -/
namespace Go.Proofs.YtfhfjcfhanmbiaaGreat
open Go Go.RowKit
namespace Ev
def lmP (a b m1 m2 y : Int) : List (List Int) := [[a, b, m1, y], [b, a, m2, y]]
def chg (r d : Int) : Int := min ((r * d + 999).tdiv 1000) 20000
def acc (X : List (List Int)) (f : Nat → List (List Int)) : Nat → List (List Int)
  | 0 => X
  | t + 1 => acc X f t ++ f t
theorem acc_add {X L : List (List Int)} {f : Nat → List (List Int)} {t : Nat} (h : f t = L) : flatV (acc X f (t + 1)) = flatV (acc X f t) ++ flatV L := by
  show flatV (acc X f t ++ f t) = _
  rw [h, flatV_app]
theorem acc_no {X : List (List Int)} {f : Nat → List (List Int)} {t : Nat} (h : f t = []) : acc X f (t + 1) = acc X f t := by
  show acc X f t ++ f t = _
  rw [h, List.append_nil]
theorem acc_ln {X L : List (List Int)} {f : Nat → List (List Int)} {t : Nat} (h : f t = L) : (acc X f (t + 1)).length = (acc X f t).length + L.length := by
  show (acc X f t ++ f t).length = _
  rw [h, List.length_append]
def L4 (L : List (List Int)) : Prop := ∀ r ∈ L, r.length = 4
theorem L4.nil : L4 [] := fun _ h => (by cases h)
theorem L4.lm {a b m1 m2 y : Int} : L4 (lmP a b m1 m2 y) := fun r h => by
  rcases List.mem_cons.1 h with rfl | h
  · rfl
  · rw [List.mem_singleton.1 h]; rfl
theorem L4.app {L M : List (List Int)} (h : L4 L) (k : L4 M) : L4 (L ++ M) := fun r hr => (List.mem_append.1 hr).elim (h r) (k r)
theorem L4.acc {X : List (List Int)} {f : Nat → List (List Int)} (hX : L4 X) (hf : ∀ k, L4 (f k)) : ∀ t, L4 (acc X f t)
  | 0 => hX
  | t + 1 => (L4.acc hX hf t).app (hf t)
/-- Of a survey, what its limits rest on. -/
structure Sv where
  r : Int
  al : Int
  up : Int
  l1 : List Int
  l2 : List Int
  rs : List (List Int)
  cs : List (List Int)
namespace Sv
variable (y : Sv)
def N : Nat := y.l2.length * y.l1.length
def D : List (List Int) := dys y.rs
def M : Int := (y.l1.length : Int) * (y.l2.length : Int)
def q1 (k : Nat) : List (List Int) := lmP 0 ((k : Int) + 1) 20000 0 y.r
def q2 (k : Nat) : List (List Int) := if ((k / y.l2.length : Nat) : Int) + 1 < (y.l1.length : Int) then lmP ((k : Int) + 1) (1 + (((k / y.l2.length : Nat) : Int) + 1) * (y.l2.length : Int) + ((k % y.l2.length : Nat) : Int)) (chg y.al (y.l1.getD (k / y.l2.length + 1) 0 - y.l1.getD (k / y.l2.length) 0)) (chg y.al (y.l1.getD (k / y.l2.length + 1) 0 - y.l1.getD (k / y.l2.length) 0)) y.r else []
def q3 (k : Nat) : List (List Int) := if ((k % y.l2.length : Nat) : Int) + 1 < (y.l2.length : Int) then lmP ((k : Int) + 1) (1 + ((k / y.l2.length : Nat) : Int) * (y.l2.length : Int) + (((k % y.l2.length : Nat) : Int) + 1)) (chg y.up (y.l2.getD (k % y.l2.length + 1) 0 - y.l2.getD (k % y.l2.length) 0)) (chg y.up (y.l2.getD (k % y.l2.length + 1) 0 - y.l2.getD (k % y.l2.length) 0)) y.r else []
def q4 (k : Nat) : List (List Int) := lmP 0 (y.M + 1 + (k : Int)) 1000 1000 y.r
def q5 (i k : Nat) : List (List Int) :=
  if (y.cs.getD i []).getD 1 0 = (y.D.getD k []).getD 0 0 ∧ ((y.cs.getD i []).getD 2 0 ≤ (y.D.getD k []).getD 1 0 ∧ (y.D.getD k []).getD 1 0 ≤ (y.cs.getD i []).getD 3 0) then lmP 0 (y.M + 1 + (k : Int)) (-(y.cs.getD i []).getD 4 0) ((y.cs.getD i []).getD 5 0) ((y.cs.getD i []).getD 0 0) else []
def q6 (k : Nat) : List (List Int) :=
  lmP (y.M + 1 + (ixN [(y.rs.getD k []).getD 5 0, (y.rs.getD k []).getD 6 0] y.D : Int)) (1 + (y.rs.getD k []).getD 1 0 * (y.l2.length : Int) + (y.rs.getD k []).getD 2 0) ((y.rs.getD k []).getD 3 0 + (y.rs.getD k []).getD 4 0) ((y.rs.getD k []).getD 4 0 - (y.rs.getD k []).getD 3 0) ((y.rs.getD k []).getD 0 0)
def q5r (i : Nat) : List (List Int) := acc [] (y.q5 i) y.D.length
def b1 : List (List Int) := acc [] y.q1 y.N
def b2 : List (List Int) := acc y.b1 y.q2 y.N
def b3 : List (List Int) := acc y.b2 y.q3 y.N
def b4 : List (List Int) := acc y.b3 y.q4 y.D.length
/-- The limits of comparisons, row by row. -/
def b5 : Nat → List (List Int)
  | 0 => y.b4
  | i + 1 => acc (b5 i) (y.q5 i) y.D.length
def b6 : List (List Int) := acc (y.b5 y.cs.length) y.q6 y.rs.length
theorem L1 (k : Nat) : L4 (y.q1 k) := L4.lm
theorem L2 (k : Nat) : L4 (y.q2 k) := by unfold q2; split; exact L4.lm; exact L4.nil
theorem L3 (k : Nat) : L4 (y.q3 k) := by unfold q3; split; exact L4.lm; exact L4.nil
theorem L5 (i k : Nat) : L4 (y.q5 i k) := by unfold q5; split; exact L4.lm; exact L4.nil
theorem h1 (t : Nat) : L4 (acc [] y.q1 t) := L4.nil.acc y.L1 t
theorem h2 (t : Nat) : L4 (acc y.b1 y.q2 t) := (y.h1 _).acc y.L2 t
theorem h3 (t : Nat) : L4 (acc y.b2 y.q3 t) := (y.h2 _).acc y.L3 t
theorem h4 (t : Nat) : L4 (acc y.b3 y.q4 t) := (y.h3 _).acc (fun _ => L4.lm) t
theorem h5 : ∀ i, L4 (y.b5 i)
  | 0 => y.h4 _
  | i + 1 => (h5 i).acc (y.L5 i) _
theorem h5i (i t : Nat) : L4 (acc (y.b5 i) (y.q5 i) t) := (y.h5 i).acc (y.L5 i) t
theorem h6 (t : Nat) : L4 (acc (y.b5 y.cs.length) y.q6 t) := (y.h5 _).acc (fun _ => L4.lm) t
variable {y}
theorem q2_yes {i k : Nat} (hk : k < y.l2.length) (h : (i : Int) + 1 < (y.l1.length : Int)) : y.q2 (y.l2.length * i + k) = lmP (((y.l2.length * i + k : Nat) : Int) + 1) (1 + ((i : Int) + 1) * (y.l2.length : Int) + (k : Int)) (chg y.al (y.l1.getD (i + 1) 0 - y.l1.getD i 0)) (chg y.al (y.l1.getD (i + 1) 0 - y.l1.getD i 0)) y.r := by
  unfold q2
  rw [Nat.mul_add_div (by omega), Nat.mul_add_mod, Nat.div_eq_of_lt hk, Nat.mod_eq_of_lt hk, Nat.add_zero, if_pos h]
theorem q2_no {i k : Nat} (hk : k < y.l2.length) (h : ¬ (i : Int) + 1 < (y.l1.length : Int)) : y.q2 (y.l2.length * i + k) = [] := by
  unfold q2
  rw [Nat.mul_add_div (by omega), Nat.mul_add_mod, Nat.div_eq_of_lt hk, Nat.mod_eq_of_lt hk, Nat.add_zero, if_neg h]
theorem q3_yes {i k : Nat} (hk : k < y.l2.length) (h : (k : Int) + 1 < (y.l2.length : Int)) : y.q3 (y.l2.length * i + k) = lmP (((y.l2.length * i + k : Nat) : Int) + 1) (1 + (i : Int) * (y.l2.length : Int) + ((k : Int) + 1)) (chg y.up (y.l2.getD (k + 1) 0 - y.l2.getD k 0)) (chg y.up (y.l2.getD (k + 1) 0 - y.l2.getD k 0)) y.r := by
  unfold q3
  rw [Nat.mul_add_div (by omega), Nat.mul_add_mod, Nat.div_eq_of_lt hk, Nat.mod_eq_of_lt hk, Nat.add_zero, if_pos h]
theorem q3_no {i k : Nat} (hk : k < y.l2.length) (h : ¬ (k : Int) + 1 < (y.l2.length : Int)) : y.q3 (y.l2.length * i + k) = [] := by
  unfold q3
  rw [Nat.mul_add_div (by omega), Nat.mul_add_mod, Nat.div_eq_of_lt hk, Nat.mod_eq_of_lt hk, Nat.add_zero, if_neg h]
theorem getD_of {L : List (List Int)} {k : Nat} {x : List Int} (h : L[k]? = some x) : L.getD k [] = x := by rw [List.getD_eq_getElem?_getD, h]; rfl
theorem q5_yes {i k : Nat} {z0 z1 z2 z3 z4 z5 p q : Int} (hz : y.cs[i]? = some [z0, z1, z2, z3, z4, z5]) (hx : y.D[k]? = some [p, q]) (h : z1 = p ∧ z2 ≤ q ∧ q ≤ z3) : y.q5 i k = lmP 0 (y.M + 1 + (k : Int)) (-z4) z5 z0 := by
  unfold q5
  rw [getD_of hz, getD_of hx]
  exact if_pos h
theorem q5_no {i k : Nat} {z0 z1 z2 z3 z4 z5 p q : Int} (hz : y.cs[i]? = some [z0, z1, z2, z3, z4, z5]) (hx : y.D[k]? = some [p, q]) (h : ¬ (z1 = p ∧ z2 ≤ q ∧ q ≤ z3)) : y.q5 i k = [] := by
  unfold q5
  rw [getD_of hz, getD_of hx]
  exact if_neg h
theorem q6_at {k : Nat} {x0 x1 x2 x3 x4 x5 x6 : Int} (hx : y.rs[k]? = some [x0, x1, x2, x3, x4, x5, x6]) : y.q6 k = lmP (y.M + 1 + (ixN [x5, x6] y.D : Int)) (1 + x1 * (y.l2.length : Int) + x2) (x3 + x4) (x4 - x3) x0 := by
  unfold q6
  rw [getD_of hx]; rfl
end Sv
theorem tdiv_bd {a : Int} (h : 0 ≤ a ∧ a < 9223372036854775808) : -9223372036854775808 ≤ a.tdiv 1000 ∧ a.tdiv 1000 < 9223372036854775808 := by
  rw [Int.tdiv_eq_ediv_of_nonneg h.1]; omega
theorem mul_le {x y : Int} (hx : 0 ≤ x ∧ x ≤ 100000) (hy : 0 ≤ y ∧ y ≤ 100000) : 0 ≤ x * y ∧ x * y ≤ 10000000000 :=
  ⟨Int.mul_nonneg hx.1 hy.1, by have := Int.mul_le_mul hx.2 hy.2 hy.1 (by decide); omega⟩
theorem mul_sm {x y : Int} (hx : 0 ≤ x ∧ x ≤ 100) (hy : 0 ≤ y ∧ y ≤ 100) : 0 ≤ x * y ∧ x * y ≤ 10000 :=
  ⟨Int.mul_nonneg hx.1 hy.1, by have := Int.mul_le_mul hx.2 hy.2 hy.1 (by decide); omega⟩
theorem mul_nn {x y : Nat} (hx : x ≤ 9) (hy : y ≤ 9) : x * y ≤ 81 := Nat.mul_le_mul hx hy
theorem Obj.whole {s : St} {b e : Nat} {op : Bool} {l : List Value} (h : Obj s b e op l) : Ats s b 0 l := h.ats (segL_eq segL_all).2
/-! Each tape day stands once. -/
theorem dys_mem {x0 x1 x2 x3 x4 x5 x6 : Int} {rs : List (List Int)} {k : Nat} (h : rs[k]? = some [x0, x1, x2, x3, x4, x5, x6]) : [x5, x6] ∈ dys rs := by
  have h1 : [x5, x6] ∈ dys (rs.take (k + 1)) := by
    rw [dys_at h]; split
    · assumption
    · simp
  have key : ∀ (M D : List (List Int)), [x5, x6] ∈ D → [x5, x6] ∈ M.foldl dstep D := by
    intro M
    induction M with
    | nil => intro D h; exact h
    | cons r M ih =>
      intro D h
      refine ih _ ?_
      unfold dstep; split
      · exact h
      · exact List.mem_append_left _ h
  have h2 : dys rs = (rs.drop (k + 1)).foldl dstep (dys (rs.take (k + 1))) := by
    unfold dys
    rw [← List.foldl_append, List.take_append_drop]
  rw [h2]; exact key _ _ h1
theorem dys_nodup {rs : List (List Int)} : (dys rs).Nodup := by
  have key : ∀ (M D : List (List Int)), D.Nodup → (M.foldl dstep D).Nodup := by
    intro M
    induction M with
    | nil => intro D h; exact h
    | cons r M ih =>
      intro D h
      refine ih _ ?_
      unfold dstep; split
      · exact h
      · rename_i hn
        refine List.nodup_append.2 ⟨h, by simp, fun a ha b hb => ?_⟩
        rw [List.mem_singleton.1 hb]; rintro rfl; exact hn ha
  exact key rs [] List.nodup_nil
theorem ixN_at {x : List Int} : ∀ {L : List (List Int)} {k : Nat}, L.Nodup → L[k]? = some x → ixN x L = k
  | [], k, _, h => by simp at h
  | r :: L, 0, _, h => by
    simp only [List.getElem?_cons_zero, Option.some.injEq] at h
    unfold ixN; rw [if_pos h]
  | r :: L, k + 1, hn, h => by
    have h2 : L[k]? = some x := by simpa using h
    have h3 : ¬ r = x := fun e => (List.nodup_cons.1 hn).1 (e ▸ List.mem_of_getElem? h2)
    unfold ixN; rw [if_neg h3, ixN_at (List.nodup_cons.1 hn).2 h2]

section
variable {X : FuncId → List Value → St → (Value → St → Bool) → Bool}
theorem number_s (n : Nat) (d r al up : Int) (a1 a2 : Option Addr) (c1 c2 : Nat) (l1 l2 : List Int) (x y : Int) (s : St) (hs : Wf s) (hn : 0 ≤ n) (hl1 : IntsE s a1 l1) (hl2 : IntsE s a2 l2) (hm : l2.length ≤ 9) (hx : 0 ≤ x ∧ x ≤ 9) (hy : 0 ≤ y ∧ y ≤ 9) : Spec Tryz.prog (tabK tabw) X (n + 40) 44 [.agg ⟨[.int .i64 d, .int .i64 r, .slice a1 l1.length c1, .slice a2 l2.length c2, .int .i64 al, .int .i64 up]⟩, .int .i64 x, .int .i64 y] s (fun v A => v = .int .i64 (1 + x * (l2.length : Int) + y) ∧ A = []) := by
 refine enter bw44_at rfl hs ?_
 unfold bw44
 have hlen1 := hl1.len
 have hlen2 := hl2.len
 have hq := mul_sm (x := x) (y := (l2.length : Int)) (by omega) (by omega)
 refine rS (kO rfl (a_box rfl rfl rfl (fun b1 => (kM rfl rfl (i_nil (rS (kM rfl rfl (kO rfl (a_fa rfl (kO rfl (a_ld rfl .here rfl (kO rfl (a_lenx rfl hl2.spot (kO rfl (a_mul rfl rfl (by omega) (kO rfl (a_add rfl rfl (by omega) (kM rfl rfl (kO rfl (a_add rfl rfl (by omega) (kM rfl rfl (i_nil (r_ret ?_)))))))))))))))))))))))
 exact end1 rfl ⟨rfl, rfl⟩

theorem unknownOf_s (n : Nat) (d r al up : Int) (a1 a2 : Option Addr) (c1 c2 : Nat) (l1 l2 : List Int) (x y : Int) (s : St) (hs : Wf s) (hn : 0 ≤ n) (hl1 : IntsE s a1 l1) (hl2 : IntsE s a2 l2) (hm : l2.length ≤ 9) (hx : 0 ≤ x ∧ x ≤ 9) (hy : 0 ≤ y ∧ y ≤ 9) : Spec Tryz.prog (tabK tabw) X (n + 40) 42 [.agg ⟨[.int .i64 d, .int .i64 r, .slice a1 l1.length c1, .slice a2 l2.length c2, .int .i64 al, .int .i64 up]⟩, .int .i64 x, .int .i64 y] s (fun v A => v = .int .i64 (1 + x * (l2.length : Int) + y) ∧ A = []) := by
 refine enter bw42_at rfl hs ?_
 unfold bw42
 have hlen1 := hl1.len
 have hlen2 := hl2.len
 have hq := mul_sm (x := x) (y := (l2.length : Int)) (by omega) (by omega)
 refine rS (kO rfl (a_box rfl rfl rfl (fun b1 => (kM rfl rfl (i_nil (rS (kM rfl rfl (kO rfl (a_fa rfl (kO rfl (a_ld rfl .here rfl (kO rfl (a_lenx rfl hl2.spot (kO rfl (a_mul rfl rfl (by omega) (kO rfl (a_add rfl rfl (by omega) (kM rfl rfl (kO rfl (a_add rfl rfl (by omega) (kM rfl rfl (i_nil (r_ret ?_)))))))))))))))))))))))
 exact end1 rfl ⟨rfl, rfl⟩

theorem offsets_s (n : Nat) (d r al up : Int) (a1 a2 : Option Addr) (c1 c2 : Nat) (l1 l2 : List Int) (s : St) (hs : Wf s) (hn : 0 ≤ n) (hl1 : IntsE s a1 l1) (hl2 : IntsE s a2 l2) (hm : l1.length ≤ 9 ∧ l2.length ≤ 9) : Spec Tryz.prog (tabK tabw) X (n + 40) 51 [.agg ⟨[.int .i64 d, .int .i64 r, .slice a1 l1.length c1, .slice a2 l2.length c2, .int .i64 al, .int .i64 up]⟩] s (fun v A => v = .int .i64 ((l1.length : Int) * (l2.length : Int)) ∧ A = []) := by
 refine enter bw51_at rfl hs ?_
 unfold bw51
 have hlen1 := hl1.len
 have hlen2 := hl2.len
 have hq := mul_sm (x := (l1.length : Int)) (y := (l2.length : Int)) (by omega) (by omega)
 refine rS (kO rfl (a_box rfl rfl rfl (fun b1 => (kM rfl rfl (i_nil (rS (kO rfl (a_fa rfl (kO rfl (a_ld rfl .here rfl (kO rfl (a_lenx rfl hl1.spot (kO rfl (a_fa rfl (kO rfl (a_ld rfl .here rfl (kO rfl (a_lenx rfl hl2.spot (kO rfl (a_mul rfl rfl (by omega) (kM rfl rfl (i_nil (r_ret ?_)))))))))))))))))))))))
 exact end1 rfl ⟨rfl, rfl⟩

theorem rchange_s (n : Nat) (x y : Int) (s : St) (hs : Wf s) (hx : 0 ≤ x ∧ x ≤ 100000) (hy : 0 ≤ y ∧ y ≤ 100000) : Spec Tryz.prog (tabK tabw) X (n + 40) 89 [.int .i64 x, .int .i64 y] s (fun v A => v = .int .i64 (chg x y) ∧ A = []) := by
 refine enter bw89_at rfl hs ?_
 unfold bw89
 have hq := mul_le hx hy
 refine rS (kM rfl rfl (i_nil (rS (kM rfl rfl (kM rfl rfl (kO rfl (a_mul rfl rfl (by omega) (kO rfl (a_add rfl rfl (by omega) (kO rfl (a_quo rfl rfl (by decide) (tdiv_bd (by omega)) (kO rfl (a_min rfl (kM rfl rfl (i_nil (r_ret ?_))))))))))))))))
 exact end1 rfl ⟨rfl, rfl⟩

theorem change_s (n : Nat) (x y : Int) (s : St) (hs : Wf s) (hx : 0 ≤ x ∧ x ≤ 100000) (hy : 0 ≤ y ∧ y ≤ 100000) : Spec Tryz.prog (tabK tabw) X (n + 40) 115 [.int .i64 x, .int .i64 y] s (fun v A => v = .int .i64 (chg x y) ∧ A = []) := by
 refine enter bw115_at rfl hs ?_
 unfold bw115
 have hq := mul_le hx hy
 refine rS (kM rfl rfl (i_nil (rS (kM rfl rfl (kM rfl rfl (kO rfl (a_mul rfl rfl (by omega) (kO rfl (a_add rfl rfl (by omega) (kO rfl (a_quo rfl rfl (by decide) (tdiv_bd (by omega)) (kO rfl (a_min rfl (kM rfl rfl (i_nil (r_ret ?_))))))))))))))))
 exact end1 rfl ⟨rfl, rfl⟩

theorem rpair_s (n : Nat) (a c m y : Int) (s : St) (hs : Wf s) : Spec Tryz.prog (tabK tabw) X (n + 40) 88 [.int .i64 a, .int .i64 c, .int .i64 m, .int .i64 y] s (fun v A => ∃ b, v = .slice (some ⟨b, 0, none⟩) 2 2 ∧ A = [.row b 99 false (flatV (lmP a c m m y))]) := by
 refine enter bw88_at rfl hs ?_
 unfold bw88
 refine rS (kM rfl rfl (i_nil (rS (kM rfl rfl (kM rfl rfl (kM rfl rfl (kM rfl rfl (kO rfl (a_build rfl rfl (kM rfl rfl (kM rfl rfl (kM rfl rfl (kM rfl rfl (kO rfl (a_build rfl rfl (kO rfl (a_lit rfl rfl rfl (fun b1 => (kM rfl rfl (i_nil (r_ret ?_)))))))))))))))))))))
 exact end1A rfl (.cons_cons _ .slnil) ⟨b1, rfl, rfl⟩

theorem rtold_s (n : Nat) (z0 z1 z2 z3 z4 z5 dt de f : Int) (s : St) (hs : Wf s) (h4 : -1000 ≤ z4 ∧ z4 ≤ 1000) : Spec Tryz.prog (tabK tabw) X (n + 60) 90 [.agg ⟨[.int .i64 z0, .int .i64 z1, .int .i64 z2, .int .i64 z3, .int .i64 z4, .int .i64 z5]⟩, .agg ⟨[.int .i64 dt, .int .i64 de]⟩, .int .i64 f] s (fun v A => (¬ (z1 = dt ∧ z2 ≤ de ∧ de ≤ z3) ∧ v = .slice none 0 0 ∧ A = []) ∨ ((z1 = dt ∧ z2 ≤ de ∧ de ≤ z3) ∧ ∃ b, v = .slice (some ⟨b, 0, none⟩) 2 2 ∧ A = [.row b 99 false (flatV (lmP 0 f (-z4) z5 z0))])) := by
 refine enter bw90_at rfl hs ?_
 unfold bw90
 refine rS (kO rfl (a_box rfl rfl rfl (fun b1 => (kO rfl (a_box rfl rfl rfl (fun b2 => (kM rfl rfl (i_nil (rQ (rS (kO rfl (a_fa rfl (kO rfl (a_ld rfl (.next .here) rfl (kO rfl (a_fa rfl (kO rfl (a_ld rfl .here rfl (kO rfl (a_neq rfl rfl (fun h3 => ?_) (fun h3 => ?_)))))))))))))))))))))
 ·refine kM rfl rfl (i_no rfl rfl (i_no rfl rfl (i_no rfl rfl (i_no rfl rfl (i_no rfl rfl (kO rfl (a_pick_t rfl rfl rfl (kM rfl rfl (i_no rfl rfl (i_no rfl rfl (i_no rfl rfl (i_no rfl rfl (i_no rfl rfl (kO rfl (a_pick_t rfl rfl rfl (i_nil (r_cond_t rfl (rS (kM rfl rfl (i_nil (r_ret (then_r ?_))))))))))))))))))))))
  exact end1A rfl (List.nil_sublist _) (.inl ⟨by omega, rfl, rfl⟩)
 ·refine kM rfl rfl (kG rfl rfl (a_fa rfl (kG rfl rfl (a_ld rfl .here rfl (kG rfl rfl (a_fa rfl (kG rfl rfl (a_ld rfl (.next .here) rfl (kG rfl rfl (a_lss rfl rfl (fun h4 => ?_) (fun h4 => ?_)))))))))))
  ·refine kO rfl (a_pick_f rfl rfl rfl (kM rfl rfl (i_no rfl rfl (i_no rfl rfl (i_no rfl rfl (i_no rfl rfl (i_no rfl rfl (kO rfl (a_pick_t rfl rfl rfl (i_nil (r_cond_t rfl (rS (kM rfl rfl (i_nil (r_ret (then_r ?_))))))))))))))))
   exact end1A rfl (List.nil_sublist _) (.inl ⟨by omega, rfl, rfl⟩)
  ·refine kO rfl (a_pick_f rfl rfl rfl (kM rfl rfl (kG rfl rfl (a_fa rfl (kG rfl rfl (a_ld rfl .here rfl (kG rfl rfl (a_fa rfl (kG rfl rfl (a_ld rfl (.next .here) rfl (kG rfl rfl (a_gtr rfl rfl (fun h5 => ?_) (fun h5 => ?_)))))))))))))
   ·refine kO rfl (a_pick_f rfl rfl rfl (i_nil (r_cond_t rfl (rS (kM rfl rfl (i_nil (r_ret (then_r ?_))))))))
    exact end1A rfl (List.nil_sublist _) (.inl ⟨by omega, rfl, rfl⟩)
   ·refine kO rfl (a_pick_f rfl rfl rfl (i_nil (r_cond_f rfl (r_skip (then_n (rS (kM rfl rfl (kO rfl (a_fa rfl (kO rfl (a_ld rfl (.next .here) rfl (kO rfl (a_neg rfl (by omega) (kO rfl (a_fa rfl (kO rfl (a_ld rfl (.next .here) rfl (kO rfl (a_build rfl rfl (kM rfl rfl (kO rfl (a_fa rfl (kO rfl (a_ld rfl (.next .here) rfl (kO rfl (a_fa rfl (kO rfl (a_ld rfl (.next .here) rfl (kO rfl (a_build rfl rfl (kO rfl (a_lit rfl rfl rfl (fun b6 => (kM rfl rfl (i_nil (r_ret ?_))))))))))))))))))))))))))))))))))))
    exact end1A rfl (.cons_cons _ (.cons _ (.cons _ .slnil))) (.inr ⟨by omega, b6, rfl, rfl⟩)

theorem soffsets_s (n : Nat) (bs : Nat) (a1 a2 : Option Addr) (c1 c2 : Nat) (l1 l2 : List Int) (s : St) (hs : Wf s) (hl1 : IntsE s a1 l1) (hl2 : IntsE s a2 l2) (hs2 : At s bs 2 (.slice a1 l1.length c1)) (hs3 : At s bs 3 (.slice a2 l2.length c2)) (hm : l1.length ≤ 9 ∧ l2.length ≤ 9) : Spec Tryz.prog (tabK tabw) X (n + 60) 76 [.pointer (some ⟨bs, 0, none⟩)] s (fun v A => v = .int .i64 ((l1.length : Int) * (l2.length : Int)) ∧ A = []) := by
 refine enter bw76_at rfl hs ?_
 unfold bw76
 have hlen1 := hl1.len
 have hlen2 := hl2.len
 have hq := mul_sm (x := (l1.length : Int)) (y := (l2.length : Int)) (by omega) (by omega)
 refine rS (kM rfl rfl (i_nil (rS (kM rfl rfl (kO rfl (a_nilc rfl (kO rfl (a_fa rfl (kO rfl (a_fa rfl (kO rfl (a_fa rfl (kO rfl (a_ldr rfl (by assumption) (kO rfl (a_lenx rfl (by first | exact hl1.spot | exact hl2.spot) (kM rfl rfl (kO rfl (a_nilc rfl (kO rfl (a_fa rfl (kO rfl (a_fa rfl (kO rfl (a_fa rfl (kO rfl (a_ldr rfl (by assumption) (kO rfl (a_lenx rfl (by first | exact hl1.spot | exact hl2.spot) (kO rfl (a_mul rfl rfl (by omega) (kM rfl rfl (i_nil (r_ret ?_))))))))))))))))))))))))))))))))))
 exact end1 rfl ⟨rfl, rfl⟩

theorem tape_s (n : Nat) (bs : Nat) (a1 a2 : Option Addr) (c1 c2 : Nat) (l1 l2 : List Int) (ad : Option Addr) (cd : Nat) (D : List (List Int)) (dt de : Int) (s : St) (hs : Wf s) (hl1 : IntsE s a1 l1) (hl2 : IntsE s a2 l2) (hs2 : At s bs 2 (.slice a1 l1.length c1)) (hs3 : At s bs 3 (.slice a2 l2.length c2)) (hm : l1.length ≤ 9 ∧ l2.length ≤ 9) (hn : 281474976710656 ≤ n) (h10 : At s bs 10 (.slice ad D.length cd)) (hL : RowsE s 2 ad D) (h60 : D.length ≤ 60) : Spec Tryz.prog (tabK tabw) X (n + 200) 60 [.pointer (some ⟨bs, 0, none⟩), .agg ⟨[.int .i64 dt, .int .i64 de]⟩] s (fun v A => v = .tuple #[.int .i64 (if [dt, de] ∈ D then (l1.length : Int) * (l2.length : Int) + 1 + (ixN [dt, de] D : Int) else 0), .bool (decide ([dt, de] ∈ D))] ∧ A = []) := by
 refine enter bw60_at rfl hs ?_
 unfold bw60
 have hlen1 := hl1.len
 have hlen2 := hl2.len
 have hq := mul_sm (x := (l1.length : Int)) (y := (l2.length : Int)) (by omega) (by omega)
 refine rS (kO rfl (a_box rfl rfl rfl (fun b1 => (kM rfl rfl (kM rfl rfl (i_nil (rQ (rS (kM rfl rfl (kO rfl (a_nilc rfl (kO rfl (a_fa rfl (kO rfl (a_ldr rfl (by assumption) (kO rfl (a_lenx rfl hL.spot (kM rfl rfl (i_nil (r_block (r_loop (fun j e A => ∃ (k : Nat), e = [(0, .pointer (some ⟨bs, 0, none⟩)), (3, .pointer (some ⟨b1, 0, none⟩)), (11, .slice ad D.length cd), (12, .int .i64 (D.length : Int)), (13, .int .i64 (k : Int))] ∧ A = (.row b1 71 false ([.int .i64 dt, .int .i64 de]) :: []) ∧ j = D.length - k ∧ k ≤ D.length ∧ [dt, de] ∉ D.take k) 150 0 281474976710656 ?_ (j := _) (env2 := _) (A2 := _) ?_ ?_ ?_ ?_ ⟨0, rfl, rfl, rfl, Nat.zero_le _, (by simp)⟩)))))))))))))))))))))
 rotate_left
 ·omega
 ·omega
 ·exact (lc 0 rfl (lc 3 rfl (lc 11 rfl (lc 12 rfl (lc 13 rfl Less.nil)))))
 ·exact (.cons_cons _ .slnil)
 rintro n hn j _ _ ⟨k, rfl, rfl, rfl, hk, hm5⟩
 refine rS (kO rfl (a_lss rfl rfl (fun h2 => ?_) (fun h2 => ?_)))
 ·obtain ⟨q2, o2, p, q, ahL, hx, hat, i0, i1⟩ := hL.row2 (k := k) (by omega)
  have hat2 := hat
  obtain ⟨d0, d1, _⟩ := hat2
  refine i_nil (rQ (r_cond_t rfl (r_skip (then_n (rQ (r_block (rS (kM rfl rfl (kO rfl (a_iaA (j := k) ahL rfl rfl (by first | rfl | omega) (by first | decide | omega) (kO rfl (a_ldar rfl (by decide) (by assumption) rfl (kO rfl (a_new rfl rfl (fun b3 => (kM rfl rfl (kZ rfl (a_sta rfl rfl .here rfl rfl rfl rfl (i_nil (rS (kO rfl (a_lda rfl (by decide) .here rfl (kO rfl (a_lda rfl (by decide) (.next .here) rfl (kO rfl (a_eqS rfl rfl ⟨eqTD _ _ _ _, rfl⟩ (fun h4 => ?_) (fun h4 => ?_)))))))))))))))))))))))))))
  ·refine i_nil (r_cond_t rfl (rS (kM rfl rfl (kO rfl (a_callV rfl rfl (fun s1 h1 => soffsets_s _ _ _ _ _ _ _ _ s1 h1.wf (hl1.ext hs h1.2.1) (hl2.ext hs h1.2.1) (h1.at hs2) (h1.at hs3) hm) (kO rfl (a_add rfl rfl (by omega) (kM rfl rfl (kO rfl (a_add rfl rfl (by omega) (kM rfl rfl (kM rfl rfl (i_nil (r_ret (block_r (then_r (then_r (block_r (then_r (end2 rfl rfl ⟨?_, rfl⟩))))))))))))))))))))
   first
    | (have hmm := ix_end hm5 (by omega); rw [if_neg hmm, decide_eq_false hmm]; done)
    | (have he := of_decide_eq_true (by assumption : decide _ = true); have hmm : [dt, de] ∈ D := (he ▸ List.mem_of_getElem? hx); rw [if_pos hmm, decide_eq_true hmm, ixN_hit hm5 (he ▸ hx)]; done)
  ·refine i_nil (r_cond_f rfl (r_skip (block_n (then_n (rI (kO rfl (a_add rfl rfl (by omega) (kM rfl rfl (i_nil (then_n ?_))))))))))
   exact ⟨rfl, _, _, _, (show D.length - (k + 1) < D.length - k by omega), (lc 0 rfl (lc 3 rfl (lc 11 rfl (lc 12 rfl (lc 13 rfl Less.nil))))), (.cons _ (.cons_cons _ .slnil)), ⟨k + 1, rfl, rfl, rfl, by omega, ix_next hm5 hx (fun q => absurd q.symm (of_decide_eq_false (by assumption)))⟩⟩
 ·refine i_nil (rQ (r_cond_f rfl (r_exit (then_e (then_e (block_hit (then_n (rS (kM rfl rfl (kM rfl rfl (i_nil (r_ret (end2 rfl rfl ⟨?_, rfl⟩)))))))))))))
  first
   | (have hmm := ix_end hm5 (by omega); rw [if_neg hmm, decide_eq_false hmm]; done)
   | (have he := of_decide_eq_true (by assumption : decide _ = true); have hmm : [dt, de] ∈ D := (he ▸ List.mem_of_getElem? hx); rw [if_pos hmm, decide_eq_true hmm, ixN_hit hm5 (he ▸ hx)]; done)

end
end Ev
end Go.Proofs.YtfhfjcfhanmbiaaGreat
