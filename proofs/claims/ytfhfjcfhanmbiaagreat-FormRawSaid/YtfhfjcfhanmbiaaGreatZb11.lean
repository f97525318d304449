import Derived.Test.YtfhfjcfhanmbiaaGreatZb10
import Derived.Test.YtfhfjcfhanmbiaaGreatZb07
set_option linter.unusedVariables false
set_option linter.unusedSimpArgs false
/- Contracts: Check and System of both, equal systems. -/
namespace Go.Proofs.YtfhfjcfhanmbiaaGreat
open Go Go.RowKit
namespace Ev
theorem RowsE.row4 {s : St} {a : Option Addr} {rs : List (List Int)} (h : RowsE s 4 a rs) {k : Nat} (hk : k < rs.length) : ∃ b o u0 u1 u2 u3, a = some ⟨b, o, none⟩ ∧ rs[k]? = some [u0, u1, u2, u3] ∧ Ats s b (o + k * 4) [.int .i64 u0, .int .i64 u1, .int .i64 u2, .int .i64 u3] ∧ I64 u0 ∧ I64 u1 ∧ I64 u2 ∧ I64 u3 := by
  obtain ⟨b, o, r, h1, h2, h3, h4, h5⟩ := h.row hk
  obtain ⟨u0, r1, rfl, g1⟩ := list_len_succ h3
  obtain ⟨u1, r2, rfl, g2⟩ := list_len_succ g1
  obtain ⟨u2, r3, rfl, g3⟩ := list_len_succ g2
  obtain ⟨u3, r4, rfl, g4⟩ := list_len_succ g3
  have : r4 = [] := List.eq_nil_of_length_eq_zero g4
  subst this
  exact ⟨b, o, u0, u1, u2, u3, h1, h2, h4, h5 u0 (by simp), h5 u1 (by simp), h5 u2 (by simp), h5 u3 (by simp)⟩
theorem eqLim (a0 a1 a2 a3 b0 b1 b2 b3 : Int) : pureVal Tryz.prog (Op.equal 99 (.agg #[.int .i64 a0, .int .i64 a1, .int .i64 a2, .int .i64 a3]) (.agg #[.int .i64 b0, .int .i64 b1, .int .i64 b2, .int .i64 b3])) = some (decide (([a0, a1, a2, a3] : List Int) = [b0, b1, b2, b3])) := by
  have p0 : pureVal Tryz.prog (part 3 #[.int .i64 a0, .int .i64 a1, .int .i64 a2, .int .i64 a3] 0) = some (.int .i64 a0) := by kernel_rfl
  have q0 : pureVal Tryz.prog (part 3 #[.int .i64 b0, .int .i64 b1, .int .i64 b2, .int .i64 b3] 0) = some (.int .i64 b0) := by kernel_rfl
  have p1 : pureVal Tryz.prog (part 3 #[.int .i64 a0, .int .i64 a1, .int .i64 a2, .int .i64 a3] 1) = some (.int .i64 a1) := by kernel_rfl
  have q1 : pureVal Tryz.prog (part 3 #[.int .i64 b0, .int .i64 b1, .int .i64 b2, .int .i64 b3] 1) = some (.int .i64 b1) := by kernel_rfl
  have p2 : pureVal Tryz.prog (part 3 #[.int .i64 a0, .int .i64 a1, .int .i64 a2, .int .i64 a3] 2) = some (.int .i64 a2) := by kernel_rfl
  have q2 : pureVal Tryz.prog (part 3 #[.int .i64 b0, .int .i64 b1, .int .i64 b2, .int .i64 b3] 2) = some (.int .i64 b2) := by kernel_rfl
  have p3 : pureVal Tryz.prog (part 3 #[.int .i64 a0, .int .i64 a1, .int .i64 a2, .int .i64 a3] 3) = some (.int .i64 a3) := by kernel_rfl
  have q3 : pureVal Tryz.prog (part 3 #[.int .i64 b0, .int .i64 b1, .int .i64 b2, .int .i64 b3] 3) = some (.int .i64 b3) := by kernel_rfl
  have e0 : ∀ x y, pureVal Tryz.prog (Op.equalIn 9999 3 (.int .i64 x) (.int .i64 y)) = some (x == y) := by intro x y; kernel_rfl
  unfold Op.equal
  show pureVal _ (Op.equalIn (9999 + 1) 99 _ _) = _
  rw [Op.equalIn]
  rw [pv_bind, pv_und Tryz.underlying99]
  simp [pv_bind, pv_prog, p0, q0, p1, q1, p2, q2, p3, q3, e0]
  by_cases h0 : a0 = b0
  · subst h0
    by_cases h1 : a1 = b1
    · subst h1
      by_cases h2 : a2 = b2
      · subst h2
        by_cases h3 : a3 = b3
        · subst h3
          simp [pv_bind, pv_pure, p1, q1, p2, q2, p3, q3, e0]
        · simp [h3, pv_bind, pv_pure, p1, q1, p2, q2, p3, q3, e0]
      · simp [h2, pv_bind, pv_pure, p1, q1, p2, q2, p3, q3, e0]
    · simp [h1, pv_bind, pv_pure, p1, q1, p2, q2, p3, q3, e0]
  · simp [h0, pv_bind, pv_pure, p1, q1, p2, q2, p3, q3, e0]

def chkE (p : Int) (fit : Prop) [Decidable fit] : Int := if p = 0 then (if fit then 0 else 2) else p
theorem chk_e {p : Int} {fit : Prop} [Decidable fit] (h : ¬ p = 0) : chkE p fit = p := if_neg h
theorem chk_no {p : Int} {fit : Prop} [Decidable fit] (h : p = 0) (h2 : ¬ fit) : chkE p fit = 2 := by unfold chkE; rw [if_pos h, if_neg h2]
theorem chk_ok {p : Int} {fit : Prop} [Decidable fit] (h : p = 0) (h2 : fit) : chkE p fit = 0 := by unfold chkE; rw [if_pos h, if_pos h2]
/-! The numbers of limits are numbers of the machine. -/
def F4 (L : List (List Int)) : Prop := ∀ r ∈ L, ∀ x ∈ r, -9223372036854775808 ≤ x ∧ x < 9223372036854775808
theorem F4.nil : F4 [] := fun _ h => (by cases h)
theorem F4.app {L M : List (List Int)} (h : F4 L) (k : F4 M) : F4 (L ++ M) := fun r hr => (List.mem_append.1 hr).elim (h r) (k r)
theorem F4.acc {X : List (List Int)} {f : Nat → List (List Int)} (hX : F4 X) : ∀ t, (∀ k, k < t → F4 (f k)) → F4 (acc X f t)
  | 0, _ => hX
  | t + 1, h => (F4.acc hX t (fun k hk => h k (by omega))).app (h t (by omega))
theorem F4.lm {a b m1 m2 y : Int} (ha : -9223372036854775808 ≤ a ∧ a < 9223372036854775808) (hb : -9223372036854775808 ≤ b ∧ b < 9223372036854775808) (h1 : -9223372036854775808 ≤ m1 ∧ m1 < 9223372036854775808) (h2 : -9223372036854775808 ≤ m2 ∧ m2 < 9223372036854775808) (hy : -9223372036854775808 ≤ y ∧ y < 9223372036854775808) : F4 (lmP a b m1 m2 y) := fun r hr x hx => by
  rcases List.mem_cons.1 hr with rfl | hr
  · simp only [List.mem_cons, List.not_mem_nil, or_false] at hx
    rcases hx with rfl | rfl | rfl | rfl <;> assumption
  · rw [List.mem_singleton.1 hr] at hx
    simp only [List.mem_cons, List.not_mem_nil, or_false] at hx
    rcases hx with rfl | rfl | rfl | rfl <;> assumption
theorem chg_bd {r d : Int} (hr : 0 ≤ r ∧ r ≤ 100000) (hd : 0 ≤ d ∧ d ≤ 100000) : 0 ≤ chg r d ∧ chg r d ≤ 20000 := by
  have h := mul_le hr hd
  unfold chg
  rw [Int.tdiv_eq_ediv_of_nonneg (by omega)]
  omega
theorem b6_wd {s : St} {a3 a4 : Option Addr} {r al up : Int} {l1 l2 : List Int} {rs cs : List (List Int)} (hsr : 1 ≤ r ∧ r ≤ 99999) (hsa : 0 ≤ al ∧ al ≤ 100000) (hsu : 0 ≤ up ∧ up ≤ 100000) (hpl : planB l1 l2 = true) (h60 : rs.length ≤ 60) (h20 : cs.length ≤ 20) (hrdb : rdB (l1.length : Int) (l2.length : Int) rs = true) (hcpb : cpB cs = true)
    (hr : RowsE s 7 a3 rs) (hc : RowsE s 6 a4 cs) (hDl : (dys rs).length ≤ 60) : Wd 4 (Sv.b6 (Sv.mk r al up l1 l2 rs cs)) := by
  have hp1 := plan_p1 hpl
  have hp2 := plan_p2 hpl
  have hm1 := hp1.hm
  have hm2 : (l2.length : Int) ≤ 7 := hp2m hpl
  have h22 := hp2.h2
  have hN : l2.length * l1.length ≤ 81 := mul_nn (by omega) (by omega)
  have hM := mul_sm (x := (l1.length : Int)) (y := (l2.length : Int)) (by omega) (by omega)
  have hk9 : ∀ k, k < l2.length * l1.length → k / l2.length < l1.length := fun k hk => Nat.div_lt_of_lt_mul hk
  have hkn : ∀ k, k % l2.length < l2.length := fun k => Nat.mod_lt _ (by omega)
  have e1 : F4 (acc [] (Sv.q1 (Sv.mk r al up l1 l2 rs cs)) (l2.length * l1.length)) := F4.nil.acc _ (fun k hk => F4.lm (by omega) (by omega) (by omega) (by omega) (show _ ≤ r ∧ r < _ by omega))
  have hsp : ∀ k, k < l2.length * l1.length → ∃ i w, w < l2.length ∧ i < l1.length ∧ k = l2.length * i + w := fun k hk => ⟨k / l2.length, k % l2.length, hkn k, hk9 k hk, (Nat.div_add_mod k l2.length).symm⟩
  have e2 : F4 (acc (Sv.b1 (Sv.mk r al up l1 l2 rs cs)) (Sv.q2 (Sv.mk r al up l1 l2 rs cs)) (l2.length * l1.length)) := F4.acc e1 _ (fun k hk => by
    obtain ⟨i, w, hw, hi, rfl⟩ := hsp k hk
    by_cases hq : (i : Int) + 1 < (l1.length : Int)
    · rw [Sv.q2_yes (y := (Sv.mk r al up l1 l2 rs cs)) hw hq]
      have z0 := hp1.lo i
      have z1 := hp1.lo (i + 1)
      have z2 := hp1.rise i (by omega)
      have hb := chg_bd (r := al) (d := l1.getD (i + 1) 0 - l1.getD i 0) hsa (by omega)
      have hs := mul_sm (x := (i : Int) + 1) (y := (l2.length : Int)) (by omega) (by omega)
      exact F4.lm (by show _ ≤ ((l2.length * i + w : Nat) : Int) + 1 ∧ ((l2.length * i + w : Nat) : Int) + 1 < _; omega) (by show _ ≤ 1 + ((i : Int) + 1) * (l2.length : Int) + (w : Int) ∧ 1 + ((i : Int) + 1) * (l2.length : Int) + (w : Int) < _; omega) (by show _ ≤ chg al (l1.getD (i + 1) 0 - l1.getD i 0) ∧ chg al (l1.getD (i + 1) 0 - l1.getD i 0) < _; omega) (by show _ ≤ chg al (l1.getD (i + 1) 0 - l1.getD i 0) ∧ chg al (l1.getD (i + 1) 0 - l1.getD i 0) < _; omega) (by show _ ≤ r ∧ r < _; omega)
    · rw [Sv.q2_no (y := (Sv.mk r al up l1 l2 rs cs)) hw hq]; exact F4.nil)
  have e3 : F4 (acc (Sv.b2 (Sv.mk r al up l1 l2 rs cs)) (Sv.q3 (Sv.mk r al up l1 l2 rs cs)) (l2.length * l1.length)) := F4.acc e2 _ (fun k hk => by
    obtain ⟨i, w, hw, hi, rfl⟩ := hsp k hk
    by_cases hq : (w : Int) + 1 < (l2.length : Int)
    · rw [Sv.q3_yes (y := (Sv.mk r al up l1 l2 rs cs)) hw hq]
      have z0 := hp2.lo w
      have z1 := hp2.lo (w + 1)
      have z2 := hp2.rise w (by omega)
      have hb := chg_bd (r := up) (d := l2.getD (w + 1) 0 - l2.getD w 0) hsu (by omega)
      have hs := mul_sm (x := (i : Int)) (y := (l2.length : Int)) (by omega) (by omega)
      exact F4.lm (by show _ ≤ ((l2.length * i + w : Nat) : Int) + 1 ∧ ((l2.length * i + w : Nat) : Int) + 1 < _; omega) (by show _ ≤ 1 + (i : Int) * (l2.length : Int) + ((w : Int) + 1) ∧ 1 + (i : Int) * (l2.length : Int) + ((w : Int) + 1) < _; omega) (by show _ ≤ chg up (l2.getD (w + 1) 0 - l2.getD w 0) ∧ chg up (l2.getD (w + 1) 0 - l2.getD w 0) < _; omega) (by show _ ≤ chg up (l2.getD (w + 1) 0 - l2.getD w 0) ∧ chg up (l2.getD (w + 1) 0 - l2.getD w 0) < _; omega) (by show _ ≤ r ∧ r < _; omega)
    · rw [Sv.q3_no (y := (Sv.mk r al up l1 l2 rs cs)) hw hq]; exact F4.nil)
  have e4 : F4 (acc (Sv.b3 (Sv.mk r al up l1 l2 rs cs)) (Sv.q4 (Sv.mk r al up l1 l2 rs cs)) (dys rs).length) := F4.acc e3 _ (fun k hk => F4.lm (by omega) (show _ ≤ (l1.length : Int) * (l2.length : Int) + 1 + (k : Int) ∧ (l1.length : Int) * (l2.length : Int) + 1 + (k : Int) < _ by omega) (by omega) (by omega) (show _ ≤ r ∧ r < _ by omega))
  have e5 : ∀ i, i ≤ cs.length → F4 (Sv.b5 (Sv.mk r al up l1 l2 rs cs) i) := by
    intro i
    induction i with
    | zero => intro _; exact e4
    | succ i ih =>
      intro hi
      refine F4.acc (ih (by omega)) (dys rs).length (fun k hk => ?_)
      obtain ⟨_, _, z0, z1, z2, z3, z4, z5, _, hz, _, j0, j1, j2, j3, j4, j5⟩ := hc.row6 (k := i) (by omega)
      have hcd := cpB_at hcpb hz
      have hz' : cs.getD i [] = [z0, z1, z2, z3, z4, z5] := Sv.getD_of hz
      unfold Sv.q5
      split
      · show F4 (lmP 0 ((l1.length : Int) * (l2.length : Int) + 1 + (k : Int)) (-(cs.getD i []).getD 4 0) ((cs.getD i []).getD 5 0) ((cs.getD i []).getD 0 0))
        rw [hz']
        exact F4.lm (by omega) (by omega) (show _ ≤ -z4 ∧ -z4 < _ by omega) (show _ ≤ z5 ∧ z5 < _ by omega) (show _ ≤ z0 ∧ z0 < _ by omega)
      · exact F4.nil
  refine ⟨fun x hx => Sv.h6 _ _ x hx, F4.acc (e5 _ (Nat.le_refl _)) rs.length (fun k hk => ?_)⟩
  obtain ⟨_, _, x0, x1, x2, x3, x4, x5, x6, _, hx, _, i0, i1, i2, i3, i4, i5, i6⟩ := hr.row7 (k := k) (by omega)
  have hrd := rdB_at hrdb hx
  have hix := ixN_lt (dys_mem hx)
  have hs := mul_sm (x := x1) (y := (l2.length : Int)) (by omega) (by omega)
  rw [Sv.q6_at (y := (Sv.mk r al up l1 l2 rs cs)) hx]
  exact F4.lm (show _ ≤ (l1.length : Int) * (l2.length : Int) + 1 + (ixN [x5, x6] (dys rs) : Int) ∧ (l1.length : Int) * (l2.length : Int) + 1 + (ixN [x5, x6] (dys rs) : Int) < _ by omega) (show _ ≤ 1 + x1 * (l2.length : Int) + x2 ∧ 1 + x1 * (l2.length : Int) + x2 < _ by omega) (by omega) (by omega) (by omega)
theorem dys_le {s : St} {a : Option Addr} {rs : List (List Int)} (hr : RowsE s 7 a rs) : (dys rs).length ≤ rs.length := by
  have key : ∀ k, k ≤ rs.length → (dys (rs.take k)).length ≤ k := by
    intro k
    induction k with
    | zero => intro _; exact Nat.le_refl _
    | succ k ih =>
      intro hk
      obtain ⟨_, _, x0, x1, x2, x3, x4, x5, x6, _, hx, _⟩ := hr.row7 (k := k) (by omega)
      rw [dys_at hx]
      have := ih (by omega)
      split
      · omega
      · rw [List.length_append]; simp; omega
  have := key rs.length (Nat.le_refl _)
  rwa [List.take_of_length_le (Nat.le_refl _)] at this
theorem sv_ln {r al up : Int} {l1 l2 : List Int} {rs cs : List (List Int)} (h60 : rs.length ≤ 60) (h20 : cs.length ≤ 20) (hN : l2.length * l1.length ≤ 81) (hD : (dys rs).length ≤ 60) : (Sv.b6 (Sv.mk r al up l1 l2 rs cs)).length ≤ 4000 := by
  have key : ∀ (X : List (List Int)) (f : Nat → List (List Int)) (t : Nat), (∀ k, (f k).length ≤ 2) → (acc X f t).length ≤ X.length + 2 * t := by
    intro X f t h
    induction t with
    | zero => exact Nat.le_refl _
    | succ t ih => show (acc X f t ++ f t).length ≤ _; rw [List.length_append]; have := h t; omega
  have g1 := key [] (Sv.q1 (Sv.mk r al up l1 l2 rs cs)) (l2.length * l1.length) (fun k => Nat.le_refl _)
  have g2 := key (Sv.b1 (Sv.mk r al up l1 l2 rs cs)) (Sv.q2 (Sv.mk r al up l1 l2 rs cs)) (l2.length * l1.length) (fun k => by unfold Sv.q2; split; exact Nat.le_refl _; exact Nat.zero_le _)
  have g3 := key (Sv.b2 (Sv.mk r al up l1 l2 rs cs)) (Sv.q3 (Sv.mk r al up l1 l2 rs cs)) (l2.length * l1.length) (fun k => by unfold Sv.q3; split; exact Nat.le_refl _; exact Nat.zero_le _)
  have g4 := key (Sv.b3 (Sv.mk r al up l1 l2 rs cs)) (Sv.q4 (Sv.mk r al up l1 l2 rs cs)) (dys rs).length (fun k => Nat.le_refl _)
  have g5 : ∀ i, (Sv.b5 (Sv.mk r al up l1 l2 rs cs) i).length ≤ (Sv.b5 (Sv.mk r al up l1 l2 rs cs) 0).length + 120 * i := by
    intro i
    induction i with
    | zero => exact Nat.le_refl _
    | succ i ih =>
      have := key (Sv.b5 (Sv.mk r al up l1 l2 rs cs) i) (Sv.q5 (Sv.mk r al up l1 l2 rs cs) i) (dys rs).length (fun k => by unfold Sv.q5; split; exact Nat.le_refl _; exact Nat.zero_le _)
      have e : Sv.b5 (Sv.mk r al up l1 l2 rs cs) (i + 1) = acc (Sv.b5 (Sv.mk r al up l1 l2 rs cs) i) (Sv.q5 (Sv.mk r al up l1 l2 rs cs) i) (dys rs).length := rfl
      rw [e]; omega
  have g6 := key (Sv.b5 (Sv.mk r al up l1 l2 rs cs) cs.length) (Sv.q6 (Sv.mk r al up l1 l2 rs cs)) rs.length (fun k => Nat.le_refl _)
  have g7 := g5 cs.length
  have c1 : Sv.b1 (Sv.mk r al up l1 l2 rs cs) = acc [] (Sv.q1 (Sv.mk r al up l1 l2 rs cs)) (l2.length * l1.length) := rfl
  have c2 : Sv.b2 (Sv.mk r al up l1 l2 rs cs) = acc (Sv.b1 (Sv.mk r al up l1 l2 rs cs)) (Sv.q2 (Sv.mk r al up l1 l2 rs cs)) (l2.length * l1.length) := rfl
  have c3 : Sv.b3 (Sv.mk r al up l1 l2 rs cs) = acc (Sv.b2 (Sv.mk r al up l1 l2 rs cs)) (Sv.q3 (Sv.mk r al up l1 l2 rs cs)) (l2.length * l1.length) := rfl
  have c4 : Sv.b5 (Sv.mk r al up l1 l2 rs cs) 0 = acc (Sv.b3 (Sv.mk r al up l1 l2 rs cs)) (Sv.q4 (Sv.mk r al up l1 l2 rs cs)) (dys rs).length := rfl
  have c6 : (Sv.b6 (Sv.mk r al up l1 l2 rs cs)) = acc (Sv.b5 (Sv.mk r al up l1 l2 rs cs) cs.length) (Sv.q6 (Sv.mk r al up l1 l2 rs cs)) rs.length := rfl
  rw [c1] at g2; rw [c2, c1] at g3; rw [c3, c2, c1] at g4; rw [c4, c3, c2, c1] at g7; rw [c6]
  simp only [List.length_nil] at g1
  omega

section
variable {X : FuncId → List Value → St → (Value → St → Bool) → Bool}
theorem System_s (n : Nat) (d r al up : Int) (a1 a2 : Option Addr) (c1 c2 : Nat) (l1 l2 : List Int) (a3 a4 : Option Addr) (c3 c4 : Nat) (rs cs : List (List Int)) (s : St) (hs : Wf s) (hn : 3940649673949184 ≤ n) (hl1 : IntsE s a1 l1) (hl2 : IntsE s a2 l2) (hr : RowsE s 7 a3 rs) (hc : RowsE s 6 a4 cs) : Spec Tryz.prog (tabK tabw) X (n + 6200) 10 [.agg ⟨[.int .i64 d, .int .i64 r, .slice a1 l1.length c1, .slice a2 l2.length c2, .int .i64 al, .int .i64 up, .slice a3 rs.length c3, .slice a4 cs.length c4]⟩] s (fun v A => (prt ((1 ≤ d ∧ d ≤ 99999) ∧ (1 ≤ r ∧ r ≤ 99999) ∧ (0 ≤ al ∧ al ≤ 100000) ∧ (0 ≤ up ∧ up ≤ 100000) ∧ planB l1 l2 = true) l1 l2 rs cs ≠ 0 ∧ v = .tuple #[.agg ⟨[.int .i64 0, .slice none 0 0]⟩, .int .i64 (prt ((1 ≤ d ∧ d ≤ 99999) ∧ (1 ≤ r ∧ r ≤ 99999) ∧ (0 ≤ al ∧ al ≤ 100000) ∧ (0 ≤ up ∧ up ≤ 100000) ∧ planB l1 l2 = true) l1 l2 rs cs)] ∧ A = []) ∨ (prt ((1 ≤ d ∧ d ≤ 99999) ∧ (1 ≤ r ∧ r ≤ 99999) ∧ (0 ≤ al ∧ al ≤ 100000) ∧ (0 ≤ up ∧ up ≤ 100000) ∧ planB l1 l2 = true) l1 l2 rs cs = 0 ∧ ¬ fitP (l1.length : Int) (l2.length : Int) rs (Sv.b6 (Sv.mk r al up l1 l2 rs cs)) ∧ v = .tuple #[.agg ⟨[.int .i64 0, .slice none 0 0]⟩, .int .i64 2] ∧ A = []) ∨ (prt ((1 ≤ d ∧ d ≤ 99999) ∧ (1 ≤ r ∧ r ≤ 99999) ∧ (0 ≤ al ∧ al ≤ 100000) ∧ (0 ≤ up ∧ up ≤ 100000) ∧ planB l1 l2 = true) l1 l2 rs cs = 0 ∧ fitP (l1.length : Int) (l2.length : Int) rs (Sv.b6 (Sv.mk r al up l1 l2 rs cs)) ∧ ∃ b, v = .tuple #[.agg ⟨[.int .i64 ((l1.length : Int) * (l2.length : Int) + ((dys rs).length : Int)), .slice (some ⟨b, 0, none⟩) (Sv.b6 (Sv.mk r al up l1 l2 rs cs)).length OPEN]⟩, .int .i64 0] ∧ A = [.row b 99 true (flatV (Sv.b6 (Sv.mk r al up l1 l2 rs cs)))])) := by
 refine enter bw10_at rfl hs ?_
 unfold bw10
 have hlen1 := hl1.len
 have hlen2 := hl2.len
 have hlen3 := hr.len
 have hlen4 := hc.len
 refine rS (kO rfl (a_box rfl rfl rfl (fun b1 => (kO rfl (a_new rfl rfl (fun b2 => (kM rfl rfl (i_nil (rS (kO rfl (a_lda rfl (by decide) (.next .here) rfl (kO rfl (a_call rfl rfl (fun s1 h1 => sheetOf_s _ _ _ _ _ _ _ _ _ _ _ _ _ _ _ _ _ s1 h1.wf (by omega) (hl1.ext hs h1.2.1) (hl2.ext hs h1.2.1) (hr.ext hs h1.2.1) (hc.ext hs h1.2.1)) (fun v1 A1 q1 => ?_))))))))))))))
 rcases q1 with ⟨hpn, rfl, rfl⟩ | ⟨hpt, hnf, rfl, rfl⟩ | ⟨hpt, hfit, bL, bs, DS, DR, rfl, rfl, hDR⟩
 ·refine kM rfl rfl (kO rfl (a_ext rfl rfl (kO rfl (a_ext rfl rfl (kM rfl rfl (kM rfl rfl (i_nil (rQ (rS (kM rfl rfl (kO rfl (a_neq rfl rfl (fun h3 => ?_) (fun h3 => ?_)))))))))))))
  ·refine i_nil (r_cond_t rfl (rS (kO rfl (a_build rfl rfl (kM rfl rfl (kZ rfl (a_sta rfl rfl .here rfl rfl rfl rfl (kM rfl rfl (i_nil (r_ret (then_r (⟨rfl, [_, _], [], ⟨_, _, _, [_], rfl, rfl, by decide, ⟨_, _, _, .here, rfl⟩, _, [], rfl, rfl, rfl⟩, (.cons _ (.cons _ .slnil)), .inl ⟨by assumption, rfl, rfl⟩⟩))))))))))))
  ·exact absurd (by omega) hpn
 ·refine kM rfl rfl (kO rfl (a_ext rfl rfl (kO rfl (a_ext rfl rfl (kM rfl rfl (kM rfl rfl (i_nil (rQ (rS (kM rfl rfl (kO rfl (a_neq rfl rfl (fun _ => (i_nil (r_cond_t rfl (rS (kO rfl (a_build rfl rfl (kM rfl rfl (kZ rfl (a_sta rfl rfl .here rfl rfl rfl rfl (kM rfl rfl (i_nil (r_ret (then_r (⟨rfl, [_, _], [], ⟨_, _, _, [_], rfl, rfl, by decide, ⟨_, _, _, .here, rfl⟩, _, [], rfl, rfl, rfl⟩, (.cons _ (.cons _ .slnil)), .inr (.inl ⟨hpt, hnf, rfl, rfl⟩)⟩)))))))))))))) (fun h => absurd h (by decide))))))))))))))
 ·refine kM rfl rfl (kO rfl (a_ext rfl rfl (kO rfl (a_ext rfl rfl (kM rfl rfl (kM rfl rfl (i_nil (rQ (rS (kM rfl rfl (kO rfl (a_neq rfl rfl (fun h => absurd h (by decide)) (fun _ => (i_nil (r_cond_f rfl (r_skip (then_n (rS (kM rfl rfl (kO rfl (a_nilc rfl (kO rfl (a_fa rfl (kO rfl (a_lda rfl (by decide) (.next .here) rfl (kZ rfl (a_sta rfl rfl (.next (.next (.app .here))) rfl rfl rfl rfl (kM rfl rfl (i_nil (r_ret (⟨rfl, [_, _], _, ⟨_, _, _, [_], rfl, rfl, by decide, ⟨_, _, _, (.next (.next (.app .here))), rfl⟩, _, [], rfl, rfl, rfl⟩, (.cons_cons _ (.cons _ (List.sublist_append_of_sublist_right (.cons _ (.cons _ .slnil))))), .inr (.inr ⟨hpt, hfit, bL, rfl, rfl⟩)⟩)))))))))))))))))))))))))))))))

theorem Check_s (n : Nat) (d r al up : Int) (a1 a2 : Option Addr) (c1 c2 : Nat) (l1 l2 : List Int) (a3 a4 : Option Addr) (c3 c4 : Nat) (rs cs : List (List Int)) (s : St) (hs : Wf s) (hn : 3940649673949184 ≤ n) (hl1 : IntsE s a1 l1) (hl2 : IntsE s a2 l2) (hr : RowsE s 7 a3 rs) (hc : RowsE s 6 a4 cs) : Spec Tryz.prog (tabK tabw) X (n + 6200) 21 [.agg ⟨[.int .i64 d, .int .i64 r, .slice a1 l1.length c1, .slice a2 l2.length c2, .int .i64 al, .int .i64 up, .slice a3 rs.length c3, .slice a4 cs.length c4]⟩] s (fun v A => v = .int .i64 (chkE (prt ((1 ≤ d ∧ d ≤ 99999) ∧ (1 ≤ r ∧ r ≤ 99999) ∧ (0 ≤ al ∧ al ≤ 100000) ∧ (0 ≤ up ∧ up ≤ 100000) ∧ planB l1 l2 = true) l1 l2 rs cs) (fitP (l1.length : Int) (l2.length : Int) rs (Sv.b6 (Sv.mk r al up l1 l2 rs cs)))) ∧ A = []) := by
 refine enter bw21_at rfl hs ?_
 unfold bw21
 have hlen1 := hl1.len
 have hlen2 := hl2.len
 have hlen3 := hr.len
 have hlen4 := hc.len
 refine rS (kO rfl (a_box rfl rfl rfl (fun b1 => (kM rfl rfl (i_nil (rS (kO rfl (a_lda rfl (by decide) .here rfl (kO rfl (a_call rfl rfl (fun s1 h1 => sheetOf_s _ _ _ _ _ _ _ _ _ _ _ _ _ _ _ _ _ s1 h1.wf (by omega) (hl1.ext hs h1.2.1) (hl2.ext hs h1.2.1) (hr.ext hs h1.2.1) (hc.ext hs h1.2.1)) (fun v1 A1 q1 => ?_)))))))))))
 rcases q1 with ⟨hpn, rfl, rfl⟩ | ⟨hpt, hnf, rfl, rfl⟩ | ⟨hpt, hfit, bL, bs, DS, DR, rfl, rfl, hDR⟩
 ·refine kM rfl rfl (kO rfl (a_ext rfl rfl (kO rfl (a_ext rfl rfl (kM rfl rfl (kM rfl rfl (i_nil (rS (kM rfl rfl (kM rfl rfl (i_nil (r_ret (end1 rfl ⟨congrArg (Value.int .i64) ?_, rfl⟩)))))))))))))
  first
   | exact (chk_e (by assumption)).symm
   | exact (chk_no (by assumption) (by assumption)).symm
   | exact (chk_ok (by assumption) (by assumption)).symm
 ·refine kM rfl rfl (kO rfl (a_ext rfl rfl (kO rfl (a_ext rfl rfl (kM rfl rfl (kM rfl rfl (i_nil (rS (kM rfl rfl (kM rfl rfl (i_nil (r_ret (end1 rfl ⟨congrArg (Value.int .i64) ?_, rfl⟩)))))))))))))
  first
   | exact (chk_e (by assumption)).symm
   | exact (chk_no (by assumption) (by assumption)).symm
   | exact (chk_ok (by assumption) (by assumption)).symm
 ·refine kM rfl rfl (kO rfl (a_ext rfl rfl (kO rfl (a_ext rfl rfl (kM rfl rfl (kM rfl rfl (i_nil (rS (kM rfl rfl (kM rfl rfl (i_nil (r_ret (end1 rfl ⟨congrArg (Value.int .i64) ?_, rfl⟩)))))))))))))
  first
   | exact (chk_e (by assumption)).symm
   | exact (chk_no (by assumption) (by assumption)).symm
   | exact (chk_ok (by assumption) (by assumption)).symm

theorem rCheck_s (n : Nat) (d r al up : Int) (a1 a2 : Option Addr) (c1 c2 : Nat) (l1 l2 : List Int) (a3 a4 : Option Addr) (c3 c4 : Nat) (rs cs : List (List Int)) (s : St) (hs : Wf s) (hn : 3940649673949184 ≤ n) (hl1 : IntsE s a1 l1) (hl2 : IntsE s a2 l2) (hr : RowsE s 7 a3 rs) (hc : RowsE s 6 a4 cs) : Spec Tryz.prog (tabK tabw) X (n + 3400) 22 [.agg ⟨[.int .i64 d, .int .i64 r, .slice a1 l1.length c1, .slice a2 l2.length c2, .int .i64 al, .int .i64 up, .slice a3 rs.length c3, .slice a4 cs.length c4]⟩] s (fun v A => v = .int .i64 (chkE (prt ((1 ≤ d ∧ d ≤ 99999) ∧ (1 ≤ r ∧ r ≤ 99999) ∧ (0 ≤ al ∧ al ≤ 100000) ∧ (0 ≤ up ∧ up ≤ 100000) ∧ planB l1 l2 = true) l1 l2 rs cs) (fitP (l1.length : Int) (l2.length : Int) rs (Sv.b6 (Sv.mk r al up l1 l2 rs cs)))) ∧ A = []) := by
 refine enter bw22_at rfl hs ?_
 unfold bw22
 have hlen1 := hl1.len
 have hlen2 := hl2.len
 have hlen3 := hr.len
 have hlen4 := hc.len
 refine rS (kO rfl (a_box rfl rfl rfl (fun b1 => (kM rfl rfl (i_nil (rQ (rS (kO rfl (a_fa rfl (kO rfl (a_lda rfl (by decide) .here rfl (kO rfl (a_callE rfl rfl (fun s1 h1 => rCheckSpace_s _ _ _ _ _ _ _ _ _ _ _ s1 h1.wf (by omega) (hl1.ext hs h1.2.1) (hl2.ext hs h1.2.1)) (fun h2 => ?_) (fun h2 => ?_))))))))))))))
 ·have hsp := h2
  refine kO rfl (a_neq rfl rfl (fun h => absurd h (by decide)) (fun _ => (i_nil (r_cond_f rfl (r_skip (then_n (rQ (rS (kO rfl (a_fa rfl (kO rfl (a_ld rfl .here rfl (kO rfl (a_lenx rfl (by first | exact hr.spot | exact hc.spot) (kO rfl (a_gtr rfl rfl (fun h4 => ?_) (fun h4 => ?_)))))))))))))))))
  ·refine kM rfl rfl (i_no rfl rfl (i_no rfl rfl (i_no rfl rfl (i_no rfl rfl (kO rfl (a_pick_t rfl rfl rfl (i_nil (r_cond_t rfl (rS (kM rfl rfl (i_nil (r_ret (then_r (end1 rfl ⟨congrArg (Value.int .i64) ?_, rfl⟩))))))))))))))
   first
    | (rw [chk_e (by unfold prt; rw [if_pos hsp, if_pos (by omega)]; decide)]; unfold prt; rw [if_pos hsp, if_pos (by omega)]; done)
    | (refine (chk_no hpt ?_).symm; intro hf; have hf1 := hf.1; have hf2 := hf.2; first | omega | (have hd0 : (dys rs).length = 0 := (by rw [hrs]; rfl); omega))
  ·refine kM rfl rfl (kG rfl rfl (a_fa rfl (kG rfl rfl (a_ld rfl .here rfl (kG rfl rfl (a_lenx rfl (by first | exact hr.spot | exact hc.spot) (kG rfl rfl (a_gtr rfl rfl (fun h5 => ?_) (fun h5 => ?_)))))))))
   ·refine kO rfl (a_pick_f rfl rfl rfl (i_nil (r_cond_t rfl (rS (kM rfl rfl (i_nil (r_ret (then_r (end1 rfl ⟨congrArg (Value.int .i64) ?_, rfl⟩)))))))))
    first
     | (rw [chk_e (by unfold prt; rw [if_pos hsp, if_pos (by omega)]; decide)]; unfold prt; rw [if_pos hsp, if_pos (by omega)]; done)
     | (refine (chk_no hpt ?_).symm; intro hf; have hf1 := hf.1; have hf2 := hf.2; first | omega | (have hd0 : (dys rs).length = 0 := (by rw [hrs]; rfl); omega))
   ·refine kO rfl (a_pick_f rfl rfl rfl (i_nil (r_cond_f rfl (r_skip (then_n (rQ (rS (kM rfl rfl (i_nil (r_block (r_loop (fun j e A => ∃ (k : Nat), e = [(1, .pointer (some ⟨b1, 0, none⟩)), (3, .int .i64 (k : Int))] ∧ A = (.row b1 37 false ([.int .i64 d, .int .i64 r, .slice a1 l1.length c1, .slice a2 l2.length c2, .int .i64 al, .int .i64 up, .slice a3 rs.length c3, .slice a4 cs.length c4]) :: []) ∧ j = rs.length - k ∧ k ≤ rs.length ∧ rdB (l1.length : Int) (l2.length : Int) rs = rdB (l1.length : Int) (l2.length : Int) (rs.drop k)) 400 844424930131968 281474976710656 ?_ (j := _) (env2 := _) (A2 := _) ?_ ?_ ?_ ?_ ⟨0, rfl, rfl, rfl, Nat.zero_le _, rfl⟩)))))))))))
    rotate_left
    ·omega
    ·omega
    ·exact (lc 1 rfl (lc 3 rfl Less.nil))
    ·exact (.cons_cons _ .slnil)
    rintro n hn j _ _ ⟨k, rfl, rfl, rfl, hk, hi⟩
    refine rQ (rS (kM rfl rfl (kO rfl (a_fa rfl (kO rfl (a_ld rfl .here rfl (kO rfl (a_lenx rfl (by first | exact hr.spot | exact hc.spot) (kO rfl (a_lss rfl rfl (fun h6 => ?_) (fun h6 => ?_)))))))))))
    ·obtain ⟨q7, o7, x0, x1, x2, x3, x4, x5, x6, ahr, hx, hat, i0, i1, i2, i3, i4, i5, i6⟩ := hr.row7 (k := k) (by omega)
     have hat2 := hat
     obtain ⟨d0, d1, d2, d3, d4, d5, d6, _⟩ := hat2
     have := i0.lo; have := i0.hi
     have := i1.lo; have := i1.hi
     have := i2.lo; have := i2.hi
     have := i3.lo; have := i3.hi
     have := i4.lo; have := i4.hi
     have := i5.lo; have := i5.hi
     have := i6.lo; have := i6.hi
     refine i_nil (r_cond_t rfl (r_skip (then_n (rQ (r_block (rS (kO rfl (a_fa rfl (kO rfl (a_lda rfl (by decide) .here rfl (kO rfl (a_fa rfl (kO rfl (a_ld rfl .here rfl (kM rfl rfl (kO rfl (a_iaA (j := k) ahr rfl rfl (by first | rfl | omega) (by first | decide | omega) (kO rfl (a_ldar rfl (by decide) (by assumption) rfl (kO rfl (a_callB rfl rfl (fun s1 h1 => ValidReading_s _ _ _ _ _ _ _ _ _ _ _ _ _ _ _ _ _ _ s1 h1.wf (by omega) (hl1.ext hs h1.2.1) (hl2.ext hs h1.2.1)) (fun h7 => ?_) (fun h7 => ?_))))))))))))))))))))))
     ·refine kO rfl (a_not rfl (i_nil (r_cond_f rfl (r_skip (block_n (then_n (rI (kM rfl rfl (kO rfl (a_add rfl rfl (by omega) (kM rfl rfl (i_nil (then_n ?_)))))))))))))
      exact ⟨rfl, _, _, _, (show rs.length - (k + 1) < rs.length - k by omega), (lc 1 rfl (lc 3 rfl Less.nil)), (.cons_cons _ .slnil), ⟨k + 1, rfl, rfl, rfl, by omega, rdB_good hx hi (by assumption)⟩⟩
     ·refine kO rfl (a_not rfl (i_nil (r_cond_t rfl (rS (kM rfl rfl (i_nil (r_ret (block_r (then_r (then_r (block_r (then_r (end1 rfl ⟨congrArg (Value.int .i64) ?_, rfl⟩)))))))))))))
      have hpe : prt ((1 ≤ d ∧ d ≤ 99999) ∧ (1 ≤ r ∧ r ≤ 99999) ∧ (0 ≤ al ∧ al ≤ 100000) ∧ (0 ≤ up ∧ up ≤ 100000) ∧ planB l1 l2 = true) l1 l2 rs cs = 31 := by unfold prt; rw [if_pos hsp, if_neg (by omega), rdB_bad hx hi (by assumption)]; rfl
      rw [chk_e (by rw [hpe]; decide), hpe]
    ·have hrd2 := rdB_end hi (by omega)
     clear hi hk hn
     refine i_nil (r_cond_f rfl (r_exit (then_e (then_e (block_hit (then_n (rQ (rS (kM rfl rfl (i_nil (r_block (r_loop (fun j e A => ∃ (k : Nat), e = [(1, .pointer (some ⟨b1, 0, none⟩)), (4, .int .i64 (k : Int))] ∧ A = (.row b1 37 false ([.int .i64 d, .int .i64 r, .slice a1 l1.length c1, .slice a2 l2.length c2, .int .i64 al, .int .i64 up, .slice a3 rs.length c3, .slice a4 cs.length c4]) :: []) ∧ j = cs.length - k ∧ k ≤ cs.length ∧ cpB cs = cpB (cs.drop k)) 300 844424930131968 281474976710656 ?_ (j := _) (env2 := _) (A2 := _) ?_ ?_ ?_ ?_ ⟨0, rfl, rfl, rfl, Nat.zero_le _, rfl⟩))))))))))))
     rotate_left
     ·omega
     ·omega
     ·exact (lc 1 rfl (lc 4 rfl Less.nil))
     ·exact (.cons_cons _ .slnil)
     rintro n hn j _ _ ⟨k, rfl, rfl, rfl, hk, hj⟩
     refine rQ (rS (kM rfl rfl (kO rfl (a_fa rfl (kO rfl (a_ld rfl .here rfl (kO rfl (a_lenx rfl (by first | exact hr.spot | exact hc.spot) (kO rfl (a_lss rfl rfl (fun h8 => ?_) (fun h8 => ?_)))))))))))
     ·obtain ⟨q6, o6, z0, z1, z2, z3, z4, z5, ahc, hz, hat, j0, j1, j2, j3, j4, j5⟩ := hc.row6 (k := k) (by omega)
      have hat2 := hat
      obtain ⟨e0, e1, e2, e3, e4, e5, _⟩ := hat2
      have := j0.lo; have := j0.hi
      have := j1.lo; have := j1.hi
      have := j2.lo; have := j2.hi
      have := j3.lo; have := j3.hi
      have := j4.lo; have := j4.hi
      have := j5.lo; have := j5.hi
      refine i_nil (r_cond_t rfl (r_skip (then_n (rQ (r_block (rS (kO rfl (a_fa rfl (kO rfl (a_ld rfl .here rfl (kM rfl rfl (kO rfl (a_iaA (j := k) ahc rfl rfl (by first | rfl | omega) (by first | decide | omega) (kO rfl (a_ldar rfl (by decide) (by assumption) rfl (kO rfl (a_callB rfl rfl (fun s1 h1 => ValidCompare_s _ _ _ _ _ _ _ s1 h1.wf) (fun h9 => ?_) (fun h9 => ?_))))))))))))))))))
      ·refine kO rfl (a_not rfl (i_nil (r_cond_f rfl (r_skip (block_n (then_n (rI (kM rfl rfl (kO rfl (a_add rfl rfl (by omega) (kM rfl rfl (i_nil (then_n ?_)))))))))))))
       exact ⟨rfl, _, _, _, (show cs.length - (k + 1) < cs.length - k by omega), (lc 1 rfl (lc 4 rfl Less.nil)), (.cons_cons _ .slnil), ⟨k + 1, rfl, rfl, rfl, by omega, cpB_good hz hj (by assumption)⟩⟩
      ·refine kO rfl (a_not rfl (i_nil (r_cond_t rfl (rS (kM rfl rfl (i_nil (r_ret (block_r (then_r (then_r (block_r (then_r (end1 rfl ⟨congrArg (Value.int .i64) ?_, rfl⟩)))))))))))))
       have hpe : prt ((1 ≤ d ∧ d ≤ 99999) ∧ (1 ≤ r ∧ r ≤ 99999) ∧ (0 ≤ al ∧ al ≤ 100000) ∧ (0 ≤ up ∧ up ≤ 100000) ∧ planB l1 l2 = true) l1 l2 rs cs = 32 := by unfold prt; rw [if_pos hsp, if_neg (by omega), hrd2, cpB_bad hz hj (by assumption)]; rfl
       rw [chk_e (by rw [hpe]; decide), hpe]
     ·have hcb := cpB_end hj (by omega)
      have hpt := prt_mk hsp (by omega) hrd2 hcb
      obtain ⟨⟨hsd, hsr, hsa, hsu, hpl⟩, h60, h20, hrdb, hcpb⟩ := prt_ok hpt
      have hp1 := plan_p1 hpl
      have hm1 := hp1.hm
      have hm2 : (l2.length : Int) ≤ 7 := hp2m hpl
      have hmm := mul_sm (x := (l1.length : Int)) (y := (l2.length : Int)) (by omega) (by omega)
      have hdl := dys_le hr
      clear hj hk hn
      refine i_nil (r_cond_f rfl (r_exit (then_e (then_e (block_hit (then_n (rQ (rS (kO rfl (a_fa rfl (kO rfl (a_lda rfl (by decide) .here rfl (kO rfl (a_fa rfl (kO rfl (a_ld rfl .here rfl (kO rfl (a_callV rfl rfl (fun s1 h1 => offsets_s _ _ _ _ _ _ _ _ _ _ _ s1 h1.wf (by omega) (hl1.ext hs h1.2.1) (hl2.ext hs h1.2.1) (by omega)) (kZ rfl (a_again rfl rfl .here rfl (by simp [eqV, eqA, eqL, kindEq, intEq_eq, eqV_sl hl1.spot, eqV_sl hl2.spot, eqV_sl hr.spot, eqV_sl hc.spot]) (kO rfl (a_call rfl rfl (fun s1 h1 => tapes_s _ _ _ _ s1 h1.wf (by omega) (hr.ext hs h1.2.1) (by omega)) (fun v1 A1 q1 => ?_)))))))))))))))))))))))
      rcases q1 with ⟨hrs, rfl, rfl⟩ | ⟨hne, bd, rfl, rfl, hWD, hDl⟩
      ·refine kO rfl (a_len0 rfl (kO rfl (a_add rfl rfl (by omega) (kO rfl (a_gtr rfl rfl (fun h10 => ?_) (fun h10 => ?_))))))
       ·refine kM rfl rfl (i_no rfl rfl (i_no rfl rfl (i_no rfl rfl (i_no rfl rfl (kO rfl (a_pick_t rfl rfl rfl (i_nil (r_cond_t rfl (rS (kM rfl rfl (i_nil (r_ret (then_r (end1 rfl ⟨congrArg (Value.int .i64) ?_, rfl⟩))))))))))))))
        first
         | (rw [chk_e (by unfold prt; rw [if_pos hsp, if_pos (by omega)]; decide)]; unfold prt; rw [if_pos hsp, if_pos (by omega)]; done)
         | (refine (chk_no hpt ?_).symm; intro hf; have hf1 := hf.1; have hf2 := hf.2; first | omega | (have hd0 : (dys rs).length = 0 := (by rw [hrs]; rfl); omega))
       ·refine kM rfl rfl (kG rfl rfl (a_lda rfl (by decide) .here rfl (kG rfl rfl (a_call rfl rfl (fun s1 h1 => limits_s _ _ _ _ _ _ _ _ _ _ _ _ _ _ _ _ _ s1 h1.wf (by omega) (hl1.ext hs h1.2.1) (hl2.ext hs h1.2.1) (hr.ext hs h1.2.1) (hc.ext hs h1.2.1) hpt) (fun v1 A1 q1 => ?_)))))
        obtain ⟨bm11, rfl, rfl⟩ := q1
        refine kG rfl rfl (a_len rfl (kG rfl rfl (a_gtr rfl rfl (fun h12 => ?_) (fun h12 => ?_))))
        ·refine kO rfl (a_pick_f rfl rfl rfl (i_nil (r_cond_t rfl (rS (kM rfl rfl (i_nil (r_ret (then_r (end1 rfl ⟨congrArg (Value.int .i64) ?_, rfl⟩)))))))))
         first
          | (rw [chk_e (by unfold prt; rw [if_pos hsp, if_pos (by omega)]; decide)]; unfold prt; rw [if_pos hsp, if_pos (by omega)]; done)
          | (refine (chk_no hpt ?_).symm; intro hf; have hf1 := hf.1; have hf2 := hf.2; first | omega | (have hd0 : (dys rs).length = 0 := (by rw [hrs]; rfl); omega))
        ·refine kO rfl (a_pick_f rfl rfl rfl (i_nil (r_cond_f rfl (r_skip (then_n (rS (kM rfl rfl (i_nil (r_ret (end1 rfl ⟨congrArg (Value.int .i64) ?_, rfl⟩))))))))))
         have hf1 : fitP (l1.length : Int) (l2.length : Int) rs (Sv.b6 (Sv.mk r al up l1 l2 rs cs)) := ⟨by first | omega | (have hd0 : (dys rs).length = 0 := (by rw [hrs]; rfl); omega), by omega⟩
         exact (chk_ok hpt hf1).symm
      ·refine kO rfl (a_len rfl (kO rfl (a_add rfl rfl (by omega) (kO rfl (a_gtr rfl rfl (fun h13 => ?_) (fun h13 => ?_))))))
       ·refine kM rfl rfl (i_no rfl rfl (i_no rfl rfl (i_no rfl rfl (i_no rfl rfl (kO rfl (a_pick_t rfl rfl rfl (i_nil (r_cond_t rfl (rS (kM rfl rfl (i_nil (r_ret (then_r (end1 rfl ⟨congrArg (Value.int .i64) ?_, rfl⟩))))))))))))))
        first
         | (rw [chk_e (by unfold prt; rw [if_pos hsp, if_pos (by omega)]; decide)]; unfold prt; rw [if_pos hsp, if_pos (by omega)]; done)
         | (refine (chk_no hpt ?_).symm; intro hf; have hf1 := hf.1; have hf2 := hf.2; first | omega | (have hd0 : (dys rs).length = 0 := (by rw [hrs]; rfl); omega))
       ·refine kM rfl rfl (kG rfl rfl (a_lda rfl (by decide) (.next .here) rfl (kG rfl rfl (a_call rfl rfl (fun s1 h1 => limits_s _ _ _ _ _ _ _ _ _ _ _ _ _ _ _ _ _ s1 h1.wf (by omega) (hl1.ext hs h1.2.1) (hl2.ext hs h1.2.1) (hr.ext hs h1.2.1) (hc.ext hs h1.2.1) hpt) (fun v1 A1 q1 => ?_)))))
        obtain ⟨bm14, rfl, rfl⟩ := q1
        refine kG rfl rfl (a_len rfl (kG rfl rfl (a_gtr rfl rfl (fun h15 => ?_) (fun h15 => ?_))))
        ·refine kO rfl (a_pick_f rfl rfl rfl (i_nil (r_cond_t rfl (rS (kM rfl rfl (i_nil (r_ret (then_r (end1 rfl ⟨congrArg (Value.int .i64) ?_, rfl⟩)))))))))
         first
          | (rw [chk_e (by unfold prt; rw [if_pos hsp, if_pos (by omega)]; decide)]; unfold prt; rw [if_pos hsp, if_pos (by omega)]; done)
          | (refine (chk_no hpt ?_).symm; intro hf; have hf1 := hf.1; have hf2 := hf.2; first | omega | (have hd0 : (dys rs).length = 0 := (by rw [hrs]; rfl); omega))
        ·refine kO rfl (a_pick_f rfl rfl rfl (i_nil (r_cond_f rfl (r_skip (then_n (rS (kM rfl rfl (i_nil (r_ret (end1 rfl ⟨congrArg (Value.int .i64) ?_, rfl⟩))))))))))
         have hf1 : fitP (l1.length : Int) (l2.length : Int) rs (Sv.b6 (Sv.mk r al up l1 l2 rs cs)) := ⟨by first | omega | (have hd0 : (dys rs).length = 0 := (by rw [hrs]; rfl); omega), by omega⟩
         exact (chk_ok hpt hf1).symm
 ·refine kO rfl (a_neq rfl rfl (fun _ => (i_nil (r_cond_t rfl (rS (kM rfl rfl (i_nil (r_ret (then_r (end1 rfl ⟨congrArg (Value.int .i64) ?_, rfl⟩))))))))) (fun h => absurd h (by decide)))
  have hpe : prt ((1 ≤ d ∧ d ≤ 99999) ∧ (1 ≤ r ∧ r ≤ 99999) ∧ (0 ≤ al ∧ al ≤ 100000) ∧ (0 ≤ up ∧ up ≤ 100000) ∧ planB l1 l2 = true) l1 l2 rs cs = 30 := by unfold prt; rw [if_neg (by assumption)]
  rw [chk_e (by rw [hpe]; decide), hpe]

theorem rsystem_s (n : Nat) (d r al up : Int) (a1 a2 : Option Addr) (c1 c2 : Nat) (l1 l2 : List Int) (a3 a4 : Option Addr) (c3 c4 : Nat) (rs cs : List (List Int)) (s : St) (hs : Wf s) (hn : 3659174697238528 ≤ n) (hl1 : IntsE s a1 l1) (hl2 : IntsE s a2 l2) (hr : RowsE s 7 a3 rs) (hc : RowsE s 6 a4 cs) (hpt : prt ((1 ≤ d ∧ d ≤ 99999) ∧ (1 ≤ r ∧ r ≤ 99999) ∧ (0 ≤ al ∧ al ≤ 100000) ∧ (0 ≤ up ∧ up ≤ 100000) ∧ planB l1 l2 = true) l1 l2 rs cs = 0) : Spec Tryz.prog (tabK tabw) X (n + 3300) 35 [.agg ⟨[.int .i64 d, .int .i64 r, .slice a1 l1.length c1, .slice a2 l2.length c2, .int .i64 al, .int .i64 up, .slice a3 rs.length c3, .slice a4 cs.length c4]⟩] s (fun v A => ∃ b, v = .agg ⟨[.int .i64 ((l1.length : Int) * (l2.length : Int) + ((dys rs).length : Int)), .slice (some ⟨b, 0, none⟩) (Sv.b6 (Sv.mk r al up l1 l2 rs cs)).length OPEN]⟩ ∧ A = [.row b 99 true (flatV (Sv.b6 (Sv.mk r al up l1 l2 rs cs)))]) := by
 refine enter bw35_at rfl hs ?_
 unfold bw35
 have hlen1 := hl1.len
 have hlen2 := hl2.len
 have hlen3 := hr.len
 have hlen4 := hc.len
 obtain ⟨⟨hsd, hsr, hsa, hsu, hpl⟩, h60, h20, hrdb, hcpb⟩ := prt_ok hpt
 have hp1 := plan_p1 hpl
 have hp2 := plan_p2 hpl
 have hm1 := hp1.hm
 have hm2 : (l2.length : Int) ≤ 7 := hp2m hpl
 have h21 := hp1.h2
 have h22 := hp2.h2
 have hmm := mul_sm (x := (l1.length : Int)) (y := (l2.length : Int)) (by omega) (by omega)
 have hmn := mul_nn (x := l2.length) (y := l1.length) (by omega) (by omega)
 refine rS (kO rfl (a_box rfl rfl rfl (fun b1 => (kO rfl (a_new rfl rfl (fun b2 => (i_nil (rS (kO rfl (a_fa rfl (kO rfl (a_lda rfl (by decide) (.next .here) rfl (kO rfl (a_fa rfl (kO rfl (a_ld rfl (.next .here) rfl (kO rfl (a_lda rfl (by decide) (.next .here) rfl (kO rfl (a_callV rfl rfl (fun s1 h1 => offsets_s _ _ _ _ _ _ _ _ _ _ _ s1 h1.wf (by omega) (hl1.ext hs h1.2.1) (hl2.ext hs h1.2.1) (by omega)) (kZ rfl (a_againa rfl rfl (by decide) (.next .here) rfl (by simp [eqL, eqV, eqA, kindEq, intEq_eq, eqV_sl hl1.spot, eqV_sl hl2.spot, eqV_sl hr.spot, eqV_sl hc.spot]) (kZ rfl (a_again rfl rfl (.next .here) rfl (by simp [eqV, eqA, eqL, kindEq, intEq_eq, eqV_sl hl1.spot, eqV_sl hl2.spot, eqV_sl hr.spot, eqV_sl hc.spot]) (kO rfl (a_call rfl rfl (fun s1 h1 => tapes_s _ _ _ _ s1 h1.wf (by omega) (hr.ext hs h1.2.1) (by omega)) (fun v1 A1 q1 => ?_)))))))))))))))))))))))))))
 rcases q1 with ⟨hrs, rfl, rfl⟩ | ⟨hne, bd, rfl, rfl, hWD, hDl⟩
 ·refine kZ rfl (a_againa rfl rfl (by decide) (.next .here) rfl (by simp [eqL, eqV, eqA, kindEq, intEq_eq, eqV_sl hl1.spot, eqV_sl hl2.spot, eqV_sl hr.spot, eqV_sl hc.spot]) (kO rfl (a_len0 rfl (kO rfl (a_add rfl rfl (by omega) (kO rfl (a_call rfl rfl (fun s1 h1 => limits_s _ _ _ _ _ _ _ _ _ _ _ _ _ _ _ _ _ s1 h1.wf (by omega) (hl1.ext hs h1.2.1) (hl2.ext hs h1.2.1) (hr.ext hs h1.2.1) (hc.ext hs h1.2.1) hpt) (fun v1 A1 q1 => ?_))))))))
  obtain ⟨bm3, rfl, rfl⟩ := q1
  refine kO rfl (a_build rfl rfl (kZ rfl (a_sta rfl rfl (.next .here) rfl rfl rfl rfl (i_nil (r_ret (⟨rfl, [_], _, ⟨_, _, _, [], rfl, rfl, by decide, ⟨_, _, _, (.next .here), rfl⟩, rfl⟩, (.cons_cons _ (.cons _ (.cons _ .slnil))), bm3, by rw [show (dys rs).length = 0 from by rw [hrs]; rfl]; rfl, rfl⟩))))))
 ·refine kZ rfl (a_againa rfl rfl (by decide) (.next (.next .here)) rfl (by simp [eqL, eqV, eqA, kindEq, intEq_eq, eqV_sl hl1.spot, eqV_sl hl2.spot, eqV_sl hr.spot, eqV_sl hc.spot]) (kO rfl (a_len rfl (kO rfl (a_add rfl rfl (by omega) (kO rfl (a_call rfl rfl (fun s1 h1 => limits_s _ _ _ _ _ _ _ _ _ _ _ _ _ _ _ _ _ s1 h1.wf (by omega) (hl1.ext hs h1.2.1) (hl2.ext hs h1.2.1) (hr.ext hs h1.2.1) (hc.ext hs h1.2.1) hpt) (fun v1 A1 q1 => ?_))))))))
  obtain ⟨bm4, rfl, rfl⟩ := q1
  refine kO rfl (a_build rfl rfl (kZ rfl (a_sta rfl rfl (.next (.next .here)) rfl rfl rfl rfl (i_nil (r_ret (⟨rfl, [_], _, ⟨_, _, _, [], rfl, rfl, by decide, ⟨_, _, _, (.next (.next .here)), rfl⟩, rfl⟩, (.cons_cons _ (.cons _ (.cons _ (.cons _ .slnil)))), bm4, rfl, rfl⟩))))))

theorem rSystem_s (n : Nat) (d r al up : Int) (a1 a2 : Option Addr) (c1 c2 : Nat) (l1 l2 : List Int) (a3 a4 : Option Addr) (c3 c4 : Nat) (rs cs : List (List Int)) (s : St) (hs : Wf s) (hn : 4222124650659840 ≤ n) (hl1 : IntsE s a1 l1) (hl2 : IntsE s a2 l2) (hr : RowsE s 7 a3 rs) (hc : RowsE s 6 a4 cs) : Spec Tryz.prog (tabK tabw) X (n + 3600) 11 [.agg ⟨[.int .i64 d, .int .i64 r, .slice a1 l1.length c1, .slice a2 l2.length c2, .int .i64 al, .int .i64 up, .slice a3 rs.length c3, .slice a4 cs.length c4]⟩] s (fun v A => (prt ((1 ≤ d ∧ d ≤ 99999) ∧ (1 ≤ r ∧ r ≤ 99999) ∧ (0 ≤ al ∧ al ≤ 100000) ∧ (0 ≤ up ∧ up ≤ 100000) ∧ planB l1 l2 = true) l1 l2 rs cs ≠ 0 ∧ v = .tuple #[.agg ⟨[.int .i64 0, .slice none 0 0]⟩, .int .i64 (prt ((1 ≤ d ∧ d ≤ 99999) ∧ (1 ≤ r ∧ r ≤ 99999) ∧ (0 ≤ al ∧ al ≤ 100000) ∧ (0 ≤ up ∧ up ≤ 100000) ∧ planB l1 l2 = true) l1 l2 rs cs)] ∧ A = []) ∨ (prt ((1 ≤ d ∧ d ≤ 99999) ∧ (1 ≤ r ∧ r ≤ 99999) ∧ (0 ≤ al ∧ al ≤ 100000) ∧ (0 ≤ up ∧ up ≤ 100000) ∧ planB l1 l2 = true) l1 l2 rs cs = 0 ∧ ¬ fitP (l1.length : Int) (l2.length : Int) rs (Sv.b6 (Sv.mk r al up l1 l2 rs cs)) ∧ v = .tuple #[.agg ⟨[.int .i64 0, .slice none 0 0]⟩, .int .i64 2] ∧ A = []) ∨ (prt ((1 ≤ d ∧ d ≤ 99999) ∧ (1 ≤ r ∧ r ≤ 99999) ∧ (0 ≤ al ∧ al ≤ 100000) ∧ (0 ≤ up ∧ up ≤ 100000) ∧ planB l1 l2 = true) l1 l2 rs cs = 0 ∧ fitP (l1.length : Int) (l2.length : Int) rs (Sv.b6 (Sv.mk r al up l1 l2 rs cs)) ∧ ∃ b, v = .tuple #[.agg ⟨[.int .i64 ((l1.length : Int) * (l2.length : Int) + ((dys rs).length : Int)), .slice (some ⟨b, 0, none⟩) (Sv.b6 (Sv.mk r al up l1 l2 rs cs)).length OPEN]⟩, .int .i64 0] ∧ A = [.row b 99 true (flatV (Sv.b6 (Sv.mk r al up l1 l2 rs cs)))])) := by
 refine enter bw11_at rfl hs ?_
 unfold bw11
 have hlen1 := hl1.len
 have hlen2 := hl2.len
 have hlen3 := hr.len
 have hlen4 := hc.len
 refine rS (kO rfl (a_box rfl rfl rfl (fun b1 => (kO rfl (a_new rfl rfl (fun b2 => (kM rfl rfl (i_nil (rS (kO rfl (a_lda rfl (by decide) (.next .here) rfl (kO rfl (a_callV rfl rfl (fun s1 h1 => rCheck_s _ _ _ _ _ _ _ _ _ _ _ _ _ _ _ _ _ s1 h1.wf (by omega) (hl1.ext hs h1.2.1) (hl2.ext hs h1.2.1) (hr.ext hs h1.2.1) (hc.ext hs h1.2.1)) (kM rfl rfl (i_nil (rQ (rS (kM rfl rfl (kO rfl (a_neq rfl rfl (fun h3 => ?_) (fun h3 => ?_)))))))))))))))))))))
 ·have h2x := h3
  refine i_nil (r_cond_t rfl (rS (kO rfl (a_build rfl rfl (kM rfl rfl (kZ rfl (a_sta rfl rfl .here rfl rfl rfl rfl (kM rfl rfl (i_nil (r_ret (then_r (⟨rfl, [_, _], [], ⟨_, _, _, [_], rfl, rfl, by decide, ⟨_, _, _, .here, rfl⟩, _, [], rfl, rfl, rfl⟩, (.cons _ (.cons _ .slnil)), ?_⟩))))))))))))
  by_cases hpt : prt ((1 ≤ d ∧ d ≤ 99999) ∧ (1 ≤ r ∧ r ≤ 99999) ∧ (0 ≤ al ∧ al ≤ 100000) ∧ (0 ≤ up ∧ up ≤ 100000) ∧ planB l1 l2 = true) l1 l2 rs cs = 0
  ·have hnf : ¬ fitP (l1.length : Int) (l2.length : Int) rs (Sv.b6 (Sv.mk r al up l1 l2 rs cs)) := fun hf => h2x (chk_ok hpt hf)
   exact .inr (.inl ⟨hpt, hnf, by rw [chk_no hpt hnf]; rfl, rfl⟩)
  ·exact .inl ⟨hpt, by rw [chk_e hpt]; rfl, rfl⟩
 ·have hck : chkE (prt ((1 ≤ d ∧ d ≤ 99999) ∧ (1 ≤ r ∧ r ≤ 99999) ∧ (0 ≤ al ∧ al ≤ 100000) ∧ (0 ≤ up ∧ up ≤ 100000) ∧ planB l1 l2 = true) l1 l2 rs cs) (fitP (l1.length : Int) (l2.length : Int) rs (Sv.b6 (Sv.mk r al up l1 l2 rs cs))) = 0 := by omega
  have hpt : prt ((1 ≤ d ∧ d ≤ 99999) ∧ (1 ≤ r ∧ r ≤ 99999) ∧ (0 ≤ al ∧ al ≤ 100000) ∧ (0 ≤ up ∧ up ≤ 100000) ∧ planB l1 l2 = true) l1 l2 rs cs = 0 := by
   refine Decidable.byContradiction (fun hp => ?_)
   rw [chk_e hp] at hck; exact hp hck
  have hfit : fitP (l1.length : Int) (l2.length : Int) rs (Sv.b6 (Sv.mk r al up l1 l2 rs cs)) := by
   refine Decidable.byContradiction (fun hf => ?_)
   rw [chk_no hpt hf] at hck; exact absurd hck (by decide)
  refine i_nil (r_cond_f rfl (r_skip (then_n (rS (kO rfl (a_lda rfl (by decide) (.next .here) rfl (kO rfl (a_call rfl rfl (fun s1 h1 => rsystem_s _ _ _ _ _ _ _ _ _ _ _ _ _ _ _ _ _ s1 h1.wf (by omega) (hl1.ext hs h1.2.1) (hl2.ext hs h1.2.1) (hr.ext hs h1.2.1) (hc.ext hs h1.2.1) hpt) (fun v1 A1 q1 => ?_)))))))))
  obtain ⟨bS4, rfl, rfl⟩ := q1
  refine kZ rfl (a_sta rfl rfl (.next .here) rfl rfl rfl rfl (kM rfl rfl (i_nil (r_ret (⟨rfl, [_, _], _, ⟨_, _, _, [_], rfl, rfl, by decide, ⟨_, _, _, (.next .here), rfl⟩, _, [], rfl, rfl, rfl⟩, (.cons_cons _ (.cons _ (.cons _ .slnil))), .inr (.inr ⟨hpt, hfit, bS4, rfl, rfl⟩)⟩)))))

theorem SameSystem_s (n : Nat) (m : Int) (a1 a2 : Option Addr) (c1 c2 : Nat) (M : List (List Int)) (s : St) (hs : Wf s) (hn : 281474976710656 ≤ n) (hA : RowsE s 4 a1 M) (hB : RowsE s 4 a2 M) : Spec Tryz.prog (tabK tabw) X (n + 400) 17 [.agg ⟨[.int .i64 m, .slice a1 M.length c1]⟩, .agg ⟨[.int .i64 m, .slice a2 M.length c2]⟩] s (fun v A => v = .bool true ∧ A = []) := by
 refine enter bw17_at rfl hs ?_
 unfold bw17
 have hlen := hA.len
 refine rS (kO rfl (a_box rfl rfl rfl (fun b1 => (kO rfl (a_box rfl rfl rfl (fun b2 => (kM rfl rfl (i_nil (rS (kO rfl (a_fa rfl (kO rfl (a_ld rfl (.next .here) rfl (kO rfl (a_fa rfl (kO rfl (a_ld rfl .here rfl (kO rfl (a_eql rfl rfl (fun h3 => ?_) (fun h3 => ?_))))))))))))))))))))
 ·refine kM rfl rfl (kG rfl rfl (a_fa rfl (kG rfl rfl (a_ld rfl (.next .here) rfl (kG rfl rfl (a_lenx rfl (by first | exact hA.spot | exact hB.spot) (kG rfl rfl (a_fa rfl (kG rfl rfl (a_ld rfl .here rfl (kG rfl rfl (a_lenx rfl (by first | exact hA.spot | exact hB.spot) (kG rfl rfl (a_eql rfl rfl (fun h4 => ?_) (fun h4 => ?_)))))))))))))))
  ·refine kO rfl (a_pick_t rfl rfl rfl (kM rfl rfl (i_nil (rQ (rS (kM rfl rfl (i_nil (r_block (r_loop (fun j e A => ∃ (k : Nat), e = [(2, .pointer (some ⟨b1, 0, none⟩)), (3, .pointer (some ⟨b2, 0, none⟩)), (5, .bool true), (6, .int .i64 (k : Int))] ∧ A = (.row b2 45 false ([.int .i64 m, .slice a2 M.length c2]) :: (.row b1 45 false ([.int .i64 m, .slice a1 M.length c1]) :: [])) ∧ j = M.length - k ∧ k ≤ M.length) 200 0 281474976710656 ?_ (j := _) (env2 := _) (A2 := _) ?_ ?_ ?_ ?_ ⟨0, rfl, rfl, rfl, Nat.zero_le _⟩)))))))))
   rotate_left
   ·omega
   ·omega
   ·exact (lc 2 rfl (lc 3 rfl (lc 5 rfl (lc 6 rfl Less.nil))))
   ·exact (.cons_cons _ (.cons_cons _ .slnil))
   rintro n hn j _ _ ⟨k, rfl, rfl, rfl, hk⟩
   refine rQ (rS (kM rfl rfl (kO rfl (a_fa rfl (kO rfl (a_ld rfl (.next .here) rfl (kO rfl (a_lenx rfl (by first | exact hA.spot | exact hB.spot) (kO rfl (a_lss rfl rfl (fun h5 => ?_) (fun h5 => ?_)))))))))))
   ·obtain ⟨q1, o1, u0, u1, u2, u3, ahA, hx1, hat1, i10, i11, i12, i13⟩ := hA.row4 (k := k) (by omega)
    obtain ⟨q2, o2, w0, w1, w2, w3, ahB, hx2, hat2, i20, i21, i22, i23⟩ := hB.row4 (k := k) (by omega)
    have huw := hx1.symm.trans hx2
    simp only [Option.some.injEq, List.cons.injEq, and_true] at huw
    obtain ⟨rfl, rfl, rfl, rfl⟩ := huw
    refine kM rfl rfl (kG rfl rfl (a_mov rfl (kO rfl (a_pick_t rfl rfl rfl (i_nil (r_cond_t rfl (r_skip (then_n (rQ (r_block (rI (kO rfl (a_fa rfl (kO rfl (a_ld rfl (.next .here) rfl (kM rfl rfl (kO rfl (a_iaA (j := k) ahA rfl rfl (by first | rfl | omega) (by first | decide | omega) (kO rfl (a_ldar rfl (by decide) (by assumption) rfl (kO rfl (a_fa rfl (kO rfl (a_ld rfl .here rfl (kM rfl rfl (kO rfl (a_iaA (j := k) ahB rfl rfl (by first | rfl | omega) (by first | decide | omega) (kO rfl (a_ldar rfl (by decide) (by assumption) rfl (kO rfl (a_eqS rfl rfl ⟨eqLim _ _ _ _ _ _ _ _, rfl⟩ (fun h6 => ?_) (fun h6 => ?_))))))))))))))))))))))))))))))))
    ·refine kM rfl rfl (i_nil (block_n (then_n (rI (kM rfl rfl (kO rfl (a_add rfl rfl (by omega) (kM rfl rfl (i_nil (then_n ?_))))))))))
     exact ⟨rfl, _, _, _, (show M.length - (k + 1) < M.length - k by omega), (lc 2 rfl (lc 3 rfl (lc 5 rfl (lc 6 rfl Less.nil)))), (.cons_cons _ (.cons_cons _ .slnil)), ⟨k + 1, rfl, rfl, rfl, by omega⟩⟩
    ·exact absurd rfl (of_decide_eq_false h6)
   ·refine kM rfl rfl (i_no rfl rfl (kO rfl (a_pick_f rfl rfl rfl (i_nil (r_cond_f rfl (r_exit (then_e (then_e (block_hit (then_n (rS (kM rfl rfl (kM rfl rfl (i_nil (r_ret ?_)))))))))))))))
    exact end1 rfl ⟨rfl, rfl⟩
  ·exact absurd rfl h4
 ·exact absurd rfl h3

end
end Ev
end Go.Proofs.YtfhfjcfhanmbiaaGreat

/- The law FormRaw, by the evaluator. -/
namespace Go.Proofs.YtfhfjcfhanmbiaaGreat
open Go Go.RowKit
namespace Ev

section
theorem FormRaw_s (n : Nat) (d r al up : Int) (a1 a2 : Option Addr) (c1 c2 : Nat) (l1 l2 : List Int) (a3 a4 : Option Addr) (c3 c4 : Nat) (rs cs : List (List Int)) (s : St) (hs : Wf s) (hn : 5629499534213120 ≤ n) (hl1 : IntsE s a1 l1) (hl2 : IntsE s a2 l2) (hr : RowsE s 7 a3 rs) (hc : RowsE s 6 a4 cs) : Spec Tryz.prog (tabK tabw) (knownX 6) (n + 7000) 4 [.agg ⟨[.int .i64 d, .int .i64 r, .slice a1 l1.length c1, .slice a2 l2.length c2, .int .i64 al, .int .i64 up, .slice a3 rs.length c3, .slice a4 cs.length c4]⟩] s (fun v A => v = .bool true ∧ A = []) := by
 refine enter bw4_at rfl hs ?_
 unfold bw4
 have hlen1 := hl1.len
 have hlen2 := hl2.len
 have hlen3 := hr.len
 have hlen4 := hc.len
 refine rS (kO rfl (a_box rfl rfl rfl (fun b1 => (kM rfl rfl (i_nil (rS (kO rfl (a_callV rfl rfl (fun s1 h1 => known_s _ s1 h1.wf) (kM rfl rfl (i_nil (rS (kO rfl (a_lda rfl (by decide) .here rfl (kO rfl (a_call rfl rfl (fun s1 h1 => System_s _ _ _ _ _ _ _ _ _ _ _ _ _ _ _ _ _ s1 h1.wf (by omega) (hl1.ext hs h1.2.1) (hl2.ext hs h1.2.1) (hr.ext hs h1.2.1) (hc.ext hs h1.2.1)) (fun v1 A1 q1 => ?_))))))))))))))))
 rcases q1 with ⟨hpn, rfl, rfl⟩ | ⟨hpt, hnf, rfl, rfl⟩ | ⟨hpt, hfit, bA, rfl, rfl⟩
 ·refine kM rfl rfl (kO rfl (a_ext rfl rfl (kO rfl (a_ext rfl rfl (kO rfl (a_new rfl rfl (fun b2 => (kZ rfl (a_sta rfl rfl .here rfl rfl rfl rfl (kM rfl rfl (i_nil (rS (kO rfl (a_lda rfl (by decide) (.next .here) rfl (kO rfl (a_call rfl rfl (fun s1 h1 => rSystem_s _ _ _ _ _ _ _ _ _ _ _ _ _ _ _ _ _ s1 h1.wf (by omega) (hl1.ext hs h1.2.1) (hl2.ext hs h1.2.1) (hr.ext hs h1.2.1) (hc.ext hs h1.2.1)) (fun v1 A1 q1 => ?_)))))))))))))))))
  rcases q1 with ⟨hpn2, rfl, rfl⟩ | ⟨hpt2, hnf2, rfl, rfl⟩ | ⟨hpt2, hfit2, bB, rfl, rfl⟩
  ·refine kM rfl rfl (kO rfl (a_ext rfl rfl (kO rfl (a_ext rfl rfl (kO rfl (a_new rfl rfl (fun b3 => (kZ rfl (a_sta rfl rfl .here rfl rfl rfl rfl (kM rfl rfl (i_nil (rS (kO rfl (a_lda rfl (by decide) (.next .here) rfl (kO rfl (a_lda rfl (by decide) .here rfl (kO rfl (a_callV rfl rfl (fun s1 h1 => SameSystem_s _ _ _ _ _ _ [] s1 h1.wf (by omega) RowsE.nil RowsE.nil) (kM rfl rfl (i_nil (rS (kM rfl rfl (kM rfl rfl (kG rfl rfl (a_fa rfl (kG rfl rfl (a_lda rfl (by decide) (.next (.next .here)) rfl (kG rfl rfl (a_fa rfl (kG rfl rfl (a_lda rfl (by decide) (.next (.next .here)) rfl (kG rfl rfl (a_callE rfl rfl (fun s1 h1 => CheckSpace_s _ _ _ _ _ _ _ _ _ _ _ s1 h1.wf (by omega) (hl1.ext hs h1.2.1) (hl2.ext hs h1.2.1)) (fun h4 => ?_) (fun h4 => ?_))))))))))))))))))))))))))))))))))
   ·have hs1 := h4
    refine kZ rfl (a_againa rfl rfl (by decide) (.next (.next .here)) rfl (by simp [eqL, eqV, eqA, kindEq, intEq_eq, eqV_sl hl1.spot, eqV_sl hl2.spot, eqV_sl hr.spot, eqV_sl hc.spot]) (kG rfl rfl (a_callE rfl rfl (fun s1 h1 => rCheckSpace_s _ _ _ _ _ _ _ _ _ _ _ s1 h1.wf (by omega) (hl1.ext hs h1.2.1) (hl2.ext hs h1.2.1)) (fun h5 => ?_) (fun h5 => ?_))))
    ·refine kG rfl rfl (a_eql rfl rfl (fun _ => (kO rfl (a_pick_t rfl rfl rfl (kM rfl rfl (kG rfl rfl (a_lda rfl (by decide) (.next (.next .here)) rfl (kG rfl rfl (a_lda rfl (by decide) (.next (.next .here)) rfl (kG rfl rfl (a_callV rfl rfl (fun s1 h1 => Check_s _ _ _ _ _ _ _ _ _ _ _ _ _ _ _ _ _ s1 h1.wf (by omega) (hl1.ext hs h1.2.1) (hl2.ext hs h1.2.1) (hr.ext hs h1.2.1) (hc.ext hs h1.2.1)) (kZ rfl (a_againa rfl rfl (by decide) (.next (.next .here)) rfl (by simp [eqL, eqV, eqA, kindEq, intEq_eq, eqV_sl hl1.spot, eqV_sl hl2.spot, eqV_sl hr.spot, eqV_sl hc.spot]) (kG rfl rfl (a_callV rfl rfl (fun s1 h1 => rCheck_s _ _ _ _ _ _ _ _ _ _ _ _ _ _ _ _ _ s1 h1.wf (by omega) (hl1.ext hs h1.2.1) (hl2.ext hs h1.2.1) (hr.ext hs h1.2.1) (hc.ext hs h1.2.1)) (kG rfl rfl (a_eql rfl rfl (fun h7 => ?_) (fun h7 => ?_))))))))))))))))) (fun h => absurd h (by decide)))
     ·refine kO rfl (a_pick_t rfl rfl rfl (kM rfl rfl (kG rfl rfl (a_mov rfl (kO rfl (a_pick_t rfl rfl rfl (kM rfl rfl (kG rfl rfl (a_mov rfl (kG rfl rfl (a_mov rfl (kG rfl rfl (a_eql rfl rfl (fun h8 => ?_) (fun h8 => ?_))))))))))))))
      ·refine kO rfl (a_pick_t rfl rfl rfl (kM rfl rfl (i_nil (r_ret ?_))))
       exact end1 rfl ⟨rfl, rfl⟩
      ·exact absurd rfl h8
     ·exact absurd rfl h7
    ·exact absurd hs1 h5
   ·have hs1 := h4
    refine kZ rfl (a_againa rfl rfl (by decide) (.next (.next .here)) rfl (by simp [eqL, eqV, eqA, kindEq, intEq_eq, eqV_sl hl1.spot, eqV_sl hl2.spot, eqV_sl hr.spot, eqV_sl hc.spot]) (kG rfl rfl (a_callE rfl rfl (fun s1 h1 => rCheckSpace_s _ _ _ _ _ _ _ _ _ _ _ s1 h1.wf (by omega) (hl1.ext hs h1.2.1) (hl2.ext hs h1.2.1)) (fun h9 => ?_) (fun h9 => ?_))))
    ·exact absurd h9 hs1
    ·refine kG rfl rfl (a_eql rfl rfl (fun _ => (kO rfl (a_pick_t rfl rfl rfl (kM rfl rfl (kG rfl rfl (a_lda rfl (by decide) (.next (.next .here)) rfl (kG rfl rfl (a_lda rfl (by decide) (.next (.next .here)) rfl (kG rfl rfl (a_callV rfl rfl (fun s1 h1 => Check_s _ _ _ _ _ _ _ _ _ _ _ _ _ _ _ _ _ s1 h1.wf (by omega) (hl1.ext hs h1.2.1) (hl2.ext hs h1.2.1) (hr.ext hs h1.2.1) (hc.ext hs h1.2.1)) (kZ rfl (a_againa rfl rfl (by decide) (.next (.next .here)) rfl (by simp [eqL, eqV, eqA, kindEq, intEq_eq, eqV_sl hl1.spot, eqV_sl hl2.spot, eqV_sl hr.spot, eqV_sl hc.spot]) (kG rfl rfl (a_callV rfl rfl (fun s1 h1 => rCheck_s _ _ _ _ _ _ _ _ _ _ _ _ _ _ _ _ _ s1 h1.wf (by omega) (hl1.ext hs h1.2.1) (hl2.ext hs h1.2.1) (hr.ext hs h1.2.1) (hc.ext hs h1.2.1)) (kG rfl rfl (a_eql rfl rfl (fun h11 => ?_) (fun h11 => ?_))))))))))))))))) (fun h => absurd h (by decide)))
     ·refine kO rfl (a_pick_t rfl rfl rfl (kM rfl rfl (kG rfl rfl (a_mov rfl (kO rfl (a_pick_t rfl rfl rfl (kM rfl rfl (kG rfl rfl (a_mov rfl (kG rfl rfl (a_mov rfl (kG rfl rfl (a_eql rfl rfl (fun h12 => ?_) (fun h12 => ?_))))))))))))))
      ·refine kO rfl (a_pick_t rfl rfl rfl (kM rfl rfl (i_nil (r_ret ?_))))
       exact end1 rfl ⟨rfl, rfl⟩
      ·exact absurd rfl h12
     ·exact absurd rfl h11
  ·first | exact absurd hpt hpn | exact absurd hpt2 hpn | exact absurd hpt hpn2 | exact absurd hfit hnf2 | exact absurd hfit2 hnf
  ·first | exact absurd hpt hpn | exact absurd hpt2 hpn | exact absurd hpt hpn2 | exact absurd hfit hnf2 | exact absurd hfit2 hnf
 ·refine kM rfl rfl (kO rfl (a_ext rfl rfl (kO rfl (a_ext rfl rfl (kO rfl (a_new rfl rfl (fun b13 => (kZ rfl (a_sta rfl rfl .here rfl rfl rfl rfl (kM rfl rfl (i_nil (rS (kO rfl (a_lda rfl (by decide) (.next .here) rfl (kO rfl (a_call rfl rfl (fun s1 h1 => rSystem_s _ _ _ _ _ _ _ _ _ _ _ _ _ _ _ _ _ s1 h1.wf (by omega) (hl1.ext hs h1.2.1) (hl2.ext hs h1.2.1) (hr.ext hs h1.2.1) (hc.ext hs h1.2.1)) (fun v1 A1 q1 => ?_)))))))))))))))))
  rcases q1 with ⟨hpn2, rfl, rfl⟩ | ⟨hpt2, hnf2, rfl, rfl⟩ | ⟨hpt2, hfit2, bB, rfl, rfl⟩
  ·first | exact absurd hpt hpn | exact absurd hpt2 hpn | exact absurd hpt hpn2 | exact absurd hfit hnf2 | exact absurd hfit2 hnf
  ·refine kM rfl rfl (kO rfl (a_ext rfl rfl (kO rfl (a_ext rfl rfl (kO rfl (a_new rfl rfl (fun b14 => (kZ rfl (a_sta rfl rfl .here rfl rfl rfl rfl (kM rfl rfl (i_nil (rS (kO rfl (a_lda rfl (by decide) (.next .here) rfl (kO rfl (a_lda rfl (by decide) .here rfl (kO rfl (a_callV rfl rfl (fun s1 h1 => SameSystem_s _ _ _ _ _ _ [] s1 h1.wf (by omega) RowsE.nil RowsE.nil) (kM rfl rfl (i_nil (rS (kM rfl rfl (kM rfl rfl (kG rfl rfl (a_fa rfl (kG rfl rfl (a_lda rfl (by decide) (.next (.next .here)) rfl (kG rfl rfl (a_fa rfl (kG rfl rfl (a_lda rfl (by decide) (.next (.next .here)) rfl (kG rfl rfl (a_callE rfl rfl (fun s1 h1 => CheckSpace_s _ _ _ _ _ _ _ _ _ _ _ s1 h1.wf (by omega) (hl1.ext hs h1.2.1) (hl2.ext hs h1.2.1)) (fun h15 => ?_) (fun h15 => ?_))))))))))))))))))))))))))))))))))
   ·have hs1 := h15
    refine kZ rfl (a_againa rfl rfl (by decide) (.next (.next .here)) rfl (by simp [eqL, eqV, eqA, kindEq, intEq_eq, eqV_sl hl1.spot, eqV_sl hl2.spot, eqV_sl hr.spot, eqV_sl hc.spot]) (kG rfl rfl (a_callE rfl rfl (fun s1 h1 => rCheckSpace_s _ _ _ _ _ _ _ _ _ _ _ s1 h1.wf (by omega) (hl1.ext hs h1.2.1) (hl2.ext hs h1.2.1)) (fun h16 => ?_) (fun h16 => ?_))))
    ·refine kG rfl rfl (a_eql rfl rfl (fun _ => (kO rfl (a_pick_t rfl rfl rfl (kM rfl rfl (kG rfl rfl (a_lda rfl (by decide) (.next (.next .here)) rfl (kG rfl rfl (a_lda rfl (by decide) (.next (.next .here)) rfl (kG rfl rfl (a_callV rfl rfl (fun s1 h1 => Check_s _ _ _ _ _ _ _ _ _ _ _ _ _ _ _ _ _ s1 h1.wf (by omega) (hl1.ext hs h1.2.1) (hl2.ext hs h1.2.1) (hr.ext hs h1.2.1) (hc.ext hs h1.2.1)) (kZ rfl (a_againa rfl rfl (by decide) (.next (.next .here)) rfl (by simp [eqL, eqV, eqA, kindEq, intEq_eq, eqV_sl hl1.spot, eqV_sl hl2.spot, eqV_sl hr.spot, eqV_sl hc.spot]) (kG rfl rfl (a_callV rfl rfl (fun s1 h1 => rCheck_s _ _ _ _ _ _ _ _ _ _ _ _ _ _ _ _ _ s1 h1.wf (by omega) (hl1.ext hs h1.2.1) (hl2.ext hs h1.2.1) (hr.ext hs h1.2.1) (hc.ext hs h1.2.1)) (kG rfl rfl (a_eql rfl rfl (fun h18 => ?_) (fun h18 => ?_))))))))))))))))) (fun h => absurd h (by decide)))
     ·refine kO rfl (a_pick_t rfl rfl rfl (kM rfl rfl (kG rfl rfl (a_mov rfl (kO rfl (a_pick_t rfl rfl rfl (kM rfl rfl (kG rfl rfl (a_mov rfl (kG rfl rfl (a_mov rfl (kG rfl rfl (a_eql rfl rfl (fun _ => (kO rfl (a_pick_t rfl rfl rfl (kM rfl rfl (i_nil (r_ret ?_)))))) (fun h => absurd h (by decide)))))))))))))))
      exact end1 rfl ⟨rfl, rfl⟩
     ·exact absurd rfl h18
    ·exact absurd hs1 h16
   ·have hs1 := h15
    refine kZ rfl (a_againa rfl rfl (by decide) (.next (.next .here)) rfl (by simp [eqL, eqV, eqA, kindEq, intEq_eq, eqV_sl hl1.spot, eqV_sl hl2.spot, eqV_sl hr.spot, eqV_sl hc.spot]) (kG rfl rfl (a_callE rfl rfl (fun s1 h1 => rCheckSpace_s _ _ _ _ _ _ _ _ _ _ _ s1 h1.wf (by omega) (hl1.ext hs h1.2.1) (hl2.ext hs h1.2.1)) (fun h20 => ?_) (fun h20 => ?_))))
    ·exact absurd h20 hs1
    ·refine kG rfl rfl (a_eql rfl rfl (fun _ => (kO rfl (a_pick_t rfl rfl rfl (kM rfl rfl (kG rfl rfl (a_lda rfl (by decide) (.next (.next .here)) rfl (kG rfl rfl (a_lda rfl (by decide) (.next (.next .here)) rfl (kG rfl rfl (a_callV rfl rfl (fun s1 h1 => Check_s _ _ _ _ _ _ _ _ _ _ _ _ _ _ _ _ _ s1 h1.wf (by omega) (hl1.ext hs h1.2.1) (hl2.ext hs h1.2.1) (hr.ext hs h1.2.1) (hc.ext hs h1.2.1)) (kZ rfl (a_againa rfl rfl (by decide) (.next (.next .here)) rfl (by simp [eqL, eqV, eqA, kindEq, intEq_eq, eqV_sl hl1.spot, eqV_sl hl2.spot, eqV_sl hr.spot, eqV_sl hc.spot]) (kG rfl rfl (a_callV rfl rfl (fun s1 h1 => rCheck_s _ _ _ _ _ _ _ _ _ _ _ _ _ _ _ _ _ s1 h1.wf (by omega) (hl1.ext hs h1.2.1) (hl2.ext hs h1.2.1) (hr.ext hs h1.2.1) (hc.ext hs h1.2.1)) (kG rfl rfl (a_eql rfl rfl (fun h22 => ?_) (fun h22 => ?_))))))))))))))))) (fun h => absurd h (by decide)))
     ·refine kO rfl (a_pick_t rfl rfl rfl (kM rfl rfl (kG rfl rfl (a_mov rfl (kO rfl (a_pick_t rfl rfl rfl (kM rfl rfl (kG rfl rfl (a_mov rfl (kG rfl rfl (a_mov rfl (kG rfl rfl (a_eql rfl rfl (fun _ => (kO rfl (a_pick_t rfl rfl rfl (kM rfl rfl (i_nil (r_ret ?_)))))) (fun h => absurd h (by decide)))))))))))))))
      exact end1 rfl ⟨rfl, rfl⟩
     ·exact absurd rfl h22
  ·first | exact absurd hpt hpn | exact absurd hpt2 hpn | exact absurd hpt hpn2 | exact absurd hfit hnf2 | exact absurd hfit2 hnf
 ·obtain ⟨⟨hsd, hsr, hsa, hsu, hpl⟩, h60, h20, hrdb, hcpb⟩ := prt_ok hpt
  have hp1 := plan_p1 hpl
  have hp2 := plan_p2 hpl
  have hm1 := hp1.hm
  have hm2 : (l2.length : Int) ≤ 7 := hp2m hpl
  have h21 := hp1.h2
  have h22 := hp2.h2
  have hmm := mul_sm (x := (l1.length : Int)) (y := (l2.length : Int)) (by omega) (by omega)
  have hmn := mul_nn (x := l2.length) (y := l1.length) (by omega) (by omega)
  have hdl := dys_le hr
  have hW6 := b6_wd hsr hsa hsu hpl h60 h20 hrdb hcpb hr hc (by omega)
  have hl6 := sv_ln (r := r) (al := al) (up := up) h60 h20 hmn (show (dys rs).length ≤ 60 by omega)
  refine kM rfl rfl (kO rfl (a_ext rfl rfl (kO rfl (a_ext rfl rfl (kO rfl (a_new rfl rfl (fun b24 => (kZ rfl (a_sta rfl rfl .here rfl rfl rfl rfl (kM rfl rfl (i_nil (rS (kO rfl (a_lda rfl (by decide) (.next (.next .here)) rfl (kO rfl (a_call rfl rfl (fun s1 h1 => rSystem_s _ _ _ _ _ _ _ _ _ _ _ _ _ _ _ _ _ s1 h1.wf (by omega) (hl1.ext hs h1.2.1) (hl2.ext hs h1.2.1) (hr.ext hs h1.2.1) (hc.ext hs h1.2.1)) (fun v1 A1 q1 => ?_)))))))))))))))))
  rcases q1 with ⟨hpn2, rfl, rfl⟩ | ⟨hpt2, hnf2, rfl, rfl⟩ | ⟨hpt2, hfit2, bB, rfl, rfl⟩
  ·first | exact absurd hpt hpn | exact absurd hpt2 hpn | exact absurd hpt hpn2 | exact absurd hfit hnf2 | exact absurd hfit2 hnf
  ·first | exact absurd hpt hpn | exact absurd hpt2 hpn | exact absurd hpt hpn2 | exact absurd hfit hnf2 | exact absurd hfit2 hnf
  ·refine kM rfl rfl (kO rfl (a_ext rfl rfl (kO rfl (a_ext rfl rfl (kO rfl (a_new rfl rfl (fun b25 => (kZ rfl (a_sta rfl rfl .here rfl rfl rfl rfl (kM rfl rfl (i_nil (rS (kO rfl (a_lda rfl (by decide) (.next (.next .here)) rfl (kO rfl (a_lda rfl (by decide) .here rfl (kO rfl (a_callV rfl rfl (fun s1 h1 => SameSystem_s _ _ _ _ _ _ _ s1 h1.wf (by omega) (RowsE.ownF (h1.own (.next (.next (.next .here)))) hW6 (by omega)) (RowsE.ownF (h1.own (.next .here)) hW6 (by omega))) (kM rfl rfl (i_nil (rS (kM rfl rfl (kM rfl rfl (kG rfl rfl (a_fa rfl (kG rfl rfl (a_lda rfl (by decide) (.next (.next (.next (.next .here)))) rfl (kG rfl rfl (a_fa rfl (kG rfl rfl (a_lda rfl (by decide) (.next (.next (.next (.next .here)))) rfl (kG rfl rfl (a_callE rfl rfl (fun s1 h1 => CheckSpace_s _ _ _ _ _ _ _ _ _ _ _ s1 h1.wf (by omega) (hl1.ext hs h1.2.1) (hl2.ext hs h1.2.1)) (fun h26 => ?_) (fun h26 => ?_))))))))))))))))))))))))))))))))))
   ·have hs1 := h26
    refine kZ rfl (a_againa rfl rfl (by decide) (.next (.next (.next (.next .here)))) rfl (by simp [eqL, eqV, eqA, kindEq, intEq_eq, eqV_sl hl1.spot, eqV_sl hl2.spot, eqV_sl hr.spot, eqV_sl hc.spot]) (kG rfl rfl (a_callE rfl rfl (fun s1 h1 => rCheckSpace_s _ _ _ _ _ _ _ _ _ _ _ s1 h1.wf (by omega) (hl1.ext hs h1.2.1) (hl2.ext hs h1.2.1)) (fun h27 => ?_) (fun h27 => ?_))))
    ·refine kG rfl rfl (a_eql rfl rfl (fun _ => (kO rfl (a_pick_t rfl rfl rfl (kM rfl rfl (kG rfl rfl (a_lda rfl (by decide) (.next (.next (.next (.next .here)))) rfl (kG rfl rfl (a_lda rfl (by decide) (.next (.next (.next (.next .here)))) rfl (kG rfl rfl (a_callV rfl rfl (fun s1 h1 => Check_s _ _ _ _ _ _ _ _ _ _ _ _ _ _ _ _ _ s1 h1.wf (by omega) (hl1.ext hs h1.2.1) (hl2.ext hs h1.2.1) (hr.ext hs h1.2.1) (hc.ext hs h1.2.1)) (kZ rfl (a_againa rfl rfl (by decide) (.next (.next (.next (.next .here)))) rfl (by simp [eqL, eqV, eqA, kindEq, intEq_eq, eqV_sl hl1.spot, eqV_sl hl2.spot, eqV_sl hr.spot, eqV_sl hc.spot]) (kG rfl rfl (a_callV rfl rfl (fun s1 h1 => rCheck_s _ _ _ _ _ _ _ _ _ _ _ _ _ _ _ _ _ s1 h1.wf (by omega) (hl1.ext hs h1.2.1) (hl2.ext hs h1.2.1) (hr.ext hs h1.2.1) (hc.ext hs h1.2.1)) (kG rfl rfl (a_eql rfl rfl (fun h29 => ?_) (fun h29 => ?_))))))))))))))))) (fun h => absurd h (by decide)))
     ·refine kO rfl (a_pick_t rfl rfl rfl (kM rfl rfl (kG rfl rfl (a_mov rfl (kO rfl (a_pick_t rfl rfl rfl (kM rfl rfl (kG rfl rfl (a_mov rfl (kG rfl rfl (a_mov rfl (kG rfl rfl (a_eql rfl rfl (fun _ => (kO rfl (a_pick_t rfl rfl rfl (kM rfl rfl (i_nil (r_ret ?_)))))) (fun h => absurd h (by decide)))))))))))))))
      exact end1 rfl ⟨rfl, rfl⟩
     ·exact absurd rfl h29
    ·exact absurd hs1 h27
   ·have hs1 := h26
    refine kZ rfl (a_againa rfl rfl (by decide) (.next (.next (.next (.next .here)))) rfl (by simp [eqL, eqV, eqA, kindEq, intEq_eq, eqV_sl hl1.spot, eqV_sl hl2.spot, eqV_sl hr.spot, eqV_sl hc.spot]) (kG rfl rfl (a_callE rfl rfl (fun s1 h1 => rCheckSpace_s _ _ _ _ _ _ _ _ _ _ _ s1 h1.wf (by omega) (hl1.ext hs h1.2.1) (hl2.ext hs h1.2.1)) (fun h31 => ?_) (fun h31 => ?_))))
    ·exact absurd h31 hs1
    ·refine kG rfl rfl (a_eql rfl rfl (fun _ => (kO rfl (a_pick_t rfl rfl rfl (kM rfl rfl (kG rfl rfl (a_lda rfl (by decide) (.next (.next (.next (.next .here)))) rfl (kG rfl rfl (a_lda rfl (by decide) (.next (.next (.next (.next .here)))) rfl (kG rfl rfl (a_callV rfl rfl (fun s1 h1 => Check_s _ _ _ _ _ _ _ _ _ _ _ _ _ _ _ _ _ s1 h1.wf (by omega) (hl1.ext hs h1.2.1) (hl2.ext hs h1.2.1) (hr.ext hs h1.2.1) (hc.ext hs h1.2.1)) (kZ rfl (a_againa rfl rfl (by decide) (.next (.next (.next (.next .here)))) rfl (by simp [eqL, eqV, eqA, kindEq, intEq_eq, eqV_sl hl1.spot, eqV_sl hl2.spot, eqV_sl hr.spot, eqV_sl hc.spot]) (kG rfl rfl (a_callV rfl rfl (fun s1 h1 => rCheck_s _ _ _ _ _ _ _ _ _ _ _ _ _ _ _ _ _ s1 h1.wf (by omega) (hl1.ext hs h1.2.1) (hl2.ext hs h1.2.1) (hr.ext hs h1.2.1) (hc.ext hs h1.2.1)) (kG rfl rfl (a_eql rfl rfl (fun h33 => ?_) (fun h33 => ?_))))))))))))))))) (fun h => absurd h (by decide)))
     ·refine kO rfl (a_pick_t rfl rfl rfl (kM rfl rfl (kG rfl rfl (a_mov rfl (kO rfl (a_pick_t rfl rfl rfl (kM rfl rfl (kG rfl rfl (a_mov rfl (kG rfl rfl (a_mov rfl (kG rfl rfl (a_eql rfl rfl (fun _ => (kO rfl (a_pick_t rfl rfl rfl (kM rfl rfl (i_nil (r_ret ?_)))))) (fun h => absurd h (by decide)))))))))))))))
      exact end1 rfl ⟨rfl, rfl⟩
     ·exact absurd rfl h33

end
end Ev
end Go.Proofs.YtfhfjcfhanmbiaaGreat
