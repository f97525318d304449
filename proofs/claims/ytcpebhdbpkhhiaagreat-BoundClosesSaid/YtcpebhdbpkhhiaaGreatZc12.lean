import Derived.Test.YtcpebhdbpkhhiaaGreatZc11
import Derived.Test.YtcpebhdbpkhhiaaGreatZc05
set_option linter.unusedVariables false
set_option linter.unusedSimpArgs false
/- Contracts: chains, sums, equal lists. -/
namespace Go.Proofs.YtcpebhdbpkhhiaaGreat
open Go Go.RowKit
namespace Ev
theorem lim_adr {s : St} {a : Option Addr} {ls : List (List Int)} (h : RowsE s 4 a ls) (h0 : 0 < ls.length) : ∃ b o, a = some ⟨b, o, none⟩ := by
  obtain ⟨b, o, _, _, _, _, e, _⟩ := h.row4 (k := 0) h0
  exact ⟨b, o, e⟩
theorem lim_at {s : St} {a : Option Addr} {b o M k : Nat} {ls : List (List Int)} (h : RowsE s 4 a ls) (ha : a = some ⟨b, o, none⟩) (hl : lmB (M : Int) ls = true) (hk : k < ls.length) : ∃ y3, Ats s b (o + k * 4) [.int .i64 ((la ls k : Nat) : Int), .int .i64 ((lb ls k : Nat) : Int), .int .i64 (lw ls k), .int .i64 y3] := by
  obtain ⟨q4, o4, y0, y1, y2, y3, e, hx, hat, _⟩ := h.row4 hk
  rw [ha] at e
  cases e
  obtain ⟨w3, hrow⟩ := (lim_of hl hk).row
  rw [hx] at hrow
  simp only [Option.some.injEq, List.cons.injEq, and_true] at hrow
  obtain ⟨rfl, rfl, rfl, rfl⟩ := hrow
  exact ⟨_, hat⟩
theorem lim_a {s : St} {a : Option Addr} {b o M k : Nat} {ls : List (List Int)} (h : RowsE s 4 a ls) (ha : a = some ⟨b, o, none⟩) (hl : lmB (M : Int) ls = true) (hk : k < ls.length) : At s b (o + k * 4 + 0) (.int .i64 ((la ls k : Nat) : Int)) := by
  obtain ⟨y3, h1, _⟩ := lim_at h ha hl hk; exact h1
theorem lim_b {s : St} {a : Option Addr} {b o M k : Nat} {ls : List (List Int)} (h : RowsE s 4 a ls) (ha : a = some ⟨b, o, none⟩) (hl : lmB (M : Int) ls = true) (hk : k < ls.length) : At s b (o + k * 4 + 1) (.int .i64 ((lb ls k : Nat) : Int)) := by
  obtain ⟨y3, _, h1, _⟩ := lim_at h ha hl hk; exact h1
theorem lim_w {s : St} {a : Option Addr} {b o M k : Nat} {ls : List (List Int)} (h : RowsE s 4 a ls) (ha : a = some ⟨b, o, none⟩) (hl : lmB (M : Int) ls = true) (hk : k < ls.length) : At s b (o + k * 4 + 2) (.int .i64 (lw ls k)) := by
  obtain ⟨y3, _, _, h1, _⟩ := lim_at h ha hl hk; exact h1
/-- The first numbers are indices of limits. -/
def IxB (ls : List (List Int)) (x : List Int) (t : Nat) : Prop := ∀ u, u < t → ∃ i : Nat, x.getD u 0 = (i : Int) ∧ i < ls.length
theorem ix_zero {ls : List (List Int)} {x : List Int} : IxB ls x 0 := fun u hu => absurd hu (Nat.not_lt_zero u)
theorem ix_step {ls : List (List Int)} {x : List Int} {t : Nat} (h : IxB ls x t) (h2 : 0 ≤ x.getD t 0 ∧ x.getD t 0 ≤ (ls.length : Int) - 1) : IxB ls x (t + 1) := fun u hu => by
  by_cases q : u = t
  · subst q; exact ⟨(x.getD u 0).toNat, (Int.toNat_of_nonneg h2.1).symm, by omega⟩
  · exact h u (by omega)
def pix (x : List Int) (t : Nat) : Nat := if t = 0 then x.length - 1 else t - 1
theorem Chn.adj {ls : List (List Int)} {x : List Int} (h : Chn ls x) {t : Nat} (ht : t < x.length) : lb ls (x.getD (pix x t) 0).toNat = la ls (x.getD t 0).toNat := by
  unfold pix
  by_cases q : t = 0
  · subst q; exact h.cl
  · rw [if_neg q]
    have := h.nx (t - 1) (by omega)
    rwa [show t - 1 + 1 = t by omega] at this
theorem csum_bd2 {ls : List (List Int)} {M : Nat} {l : List Int} (hl : lmB (M : Int) ls = true) {n : Nat} (h : IxB ls l n) : ∀ {t : Nat}, t ≤ n → -20000 * (t : Int) ≤ csum ls l t ∧ csum ls l t ≤ 20000 * (t : Int)
  | 0, _ => ⟨by show _ ≤ (0 : Int); omega, by show (0 : Int) ≤ _; omega⟩
  | t + 1, ht => by
    have ih := csum_bd2 hl h (t := t) (by omega)
    obtain ⟨i, h1, h2⟩ := h t (by omega)
    have h3 := lw_bd hl h2
    show _ ≤ csum ls l t + lw ls (l.getD t 0).toNat ∧ csum ls l t + lw ls (l.getD t 0).toNat ≤ _
    rw [h1, Int.toNat_natCast]
    omega
theorem adj_step {ls : List (List Int)} {x : List Int} {t it pv : Nat} (h : ∀ u, u < t → lb ls (x.getD (pix x u) 0).toNat = la ls (x.getD u 0).toNat) (hp : x.getD (pix x t) 0 = (pv : Int)) (hi : x.getD t 0 = (it : Int)) (e : la ls it = lb ls pv) : ∀ u, u < t + 1 → lb ls (x.getD (pix x u) 0).toNat = la ls (x.getD u 0).toNat := fun u hu => by
  by_cases q : u = t
  · subst q; rw [hp, hi, Int.toNat_natCast, Int.toNat_natCast]; exact e.symm
  · exact h u (by omega)
theorem chn_mk {ls : List (List Int)} {x : List Int} (h0 : 0 < x.length) (h4 : x.length ≤ 400) (hi : IxB ls x x.length) (h : ∀ u, u < x.length → lb ls (x.getD (pix x u) 0).toNat = la ls (x.getD u 0).toNat) (hn : csum ls x x.length < 0) : Chn ls x := by
  refine ⟨h0, h4, hi, fun t ht => ?_, ?_, hn⟩
  · have := h (t + 1) ht
    unfold pix at this
    rw [if_neg (by omega)] at this
    exact this
  · have := h 0 h0
    unfold pix at this
    rw [if_pos rfl] at this
    exact this
theorem nx_step {ls : List (List Int)} {x : List Int} {t it ip : Nat} (h : ∀ u, u + 1 < t → lb ls (x.getD u 0).toNat = la ls (x.getD (u + 1) 0).toNat) (hi : x.getD t 0 = (it : Int)) (hp : x.getD (t - 1) 0 = (ip : Int)) (e : lb ls ip = la ls it) : ∀ u, u + 1 < t + 1 → lb ls (x.getD u 0).toNat = la ls (x.getD (u + 1) 0).toNat := fun u hu => by
  by_cases q : u + 1 = t
  · have : u = t - 1 := by omega
    rw [q, hi, this, hp, Int.toNat_natCast, Int.toNat_natCast]; exact e
  · exact h u (by omega)
theorem nx_zero {ls : List (List Int)} {x : List Int} {t : Nat} (ht : ¬ 0 < t) : ∀ u, u + 1 < t + 1 → lb ls (x.getD u 0).toNat = la ls (x.getD (u + 1) 0).toNat := fun u hu => by omega
theorem nat_I {z : Int} {n : Nat} (h : 0 ≤ z ∧ z ≤ (n : Int) - 1) : ∃ i : Nat, z = (i : Int) ∧ i < n := ⟨z.toNat, (Int.toNat_of_nonneg h.1).symm, by omega⟩
noncomputable def ccE (ls : List (List Int)) (x : List Int) : Int := @ite _ (Chn ls x) (Classical.propDecidable _) 0 20
theorem cc_yes {ls : List (List Int)} {x : List Int} (h : Chn ls x) : ccE ls x = 0 := by unfold ccE; exact if_pos h
theorem cc_no {ls : List (List Int)} {x : List Int} (h : ¬ Chn ls x) : ccE ls x = 20 := by unfold ccE; exact if_neg h
/-- Sizes, sums. -/
def szs (w : List Int) : Nat → Int
  | 0 => 0
  | k + 1 => szs w k + max (w.getD k 0) (-(w.getD k 0))
theorem szs_pos {w : List Int} : ∀ {k : Nat}, 0 ≤ szs w k
  | 0 => Int.le_refl _
  | k + 1 => by have := szs_pos (w := w) (k := k); show 0 ≤ szs w k + _; omega
def WOk (w : List Int) (n : Nat) : Prop := ∀ k, k < n → szs w (k + 1) ≤ 3600000000000
theorem wok_zero {w : List Int} : WOk w 0 := fun k hk => absurd hk (Nat.not_lt_zero k)
theorem wok_step {w : List Int} {k : Nat} (h : WOk w k) (h2 : szs w k + max (w.getD k 0) (-(w.getD k 0)) ≤ 3600000000000) : WOk w (k + 1) := fun u hu => by
  by_cases q : u = k
  · subst q; exact h2
  · exact h u (by omega)
theorem wok_le {w : List Int} {n k : Nat} (h : WOk w n) (hk : k ≤ n) : szs w k ≤ 3600000000000 := by
  cases k with
  | zero => show (0 : Int) ≤ _; decide
  | succ k => exact h k (by omega)
theorem wok_no {w : List Int} {n k : Nat} (hk : k < n) (h : ¬ szs w k + max (w.getD k 0) (-(w.getD k 0)) ≤ 3600000000000) : ¬ WOk w n := fun q => h (q k hk)
def dt (w x : List Int) : Nat → Int
  | 0 => 0
  | k + 1 => dt w x k + w.getD k 0 * x.getD k 0
theorem prod_bd {a b c : Int} (h : -c ≤ b ∧ b ≤ c) (hc : 0 ≤ c) : -(c * max a (-a)) ≤ a * b ∧ a * b ≤ c * max a (-a) := by
  rcases Int.lt_or_le a 0 with q | q
  · rw [Int.max_eq_right (by omega)]
    have h1 := Int.mul_le_mul_of_nonneg_left h.1 (show 0 ≤ -a by omega)
    have h2 := Int.mul_le_mul_of_nonneg_left h.2 (show 0 ≤ -a by omega)
    rw [Int.neg_mul, Int.neg_mul, Int.mul_neg] at h1
    rw [Int.neg_mul, Int.neg_mul] at h2
    rw [Int.mul_neg, Int.mul_comm c a]
    omega
  · rw [Int.max_eq_left (by omega)]
    have h1 := Int.mul_le_mul_of_nonneg_left h.1 q
    have h2 := Int.mul_le_mul_of_nonneg_left h.2 q
    rw [Int.mul_neg] at h1
    rw [Int.mul_comm c a]
    omega
theorem dt_bd {w x : List Int} {n : Nat} (hx : inB (-1280000) 1280000 x = true) (hn : n ≤ x.length) : ∀ {k : Nat}, k ≤ n → -(1280000 * szs w k) ≤ dt w x k ∧ dt w x k ≤ 1280000 * szs w k
  | 0, _ => ⟨by show -(1280000 * (0 : Int)) ≤ 0; decide, by show (0 : Int) ≤ 1280000 * 0; decide⟩
  | k + 1, hk => by
    have ih := dt_bd hx hn (w := w) (k := k) (by omega)
    have h1 := in_all hx (k := k) (by omega)
    have h2 := prod_bd (a := w.getD k 0) h1 (by decide)
    show -(1280000 * (szs w k + max (w.getD k 0) (-(w.getD k 0)))) ≤ dt w x k + w.getD k 0 * x.getD k 0 ∧ dt w x k + w.getD k 0 * x.getD k 0 ≤ 1280000 * (szs w k + max (w.getD k 0) (-(w.getD k 0)))
    omega
theorem dt_bd2 {w x : List Int} {n : Nat} (hx : ∀ k, k < n → -1280000 ≤ x.getD k 0 ∧ x.getD k 0 ≤ 1280000) : ∀ {k : Nat}, k ≤ n → -(1280000 * szs w k) ≤ dt w x k ∧ dt w x k ≤ 1280000 * szs w k
  | 0, _ => ⟨by show -(1280000 * (0 : Int)) ≤ 0; decide, by show (0 : Int) ≤ 1280000 * 0; decide⟩
  | k + 1, hk => by
    have ih := dt_bd2 hx (w := w) (k := k) (by omega)
    have h1 := hx k (by omega)
    have h2 := prod_bd (a := w.getD k 0) h1 (by decide)
    show -(1280000 * (szs w k + max (w.getD k 0) (-(w.getD k 0)))) ≤ dt w x k + w.getD k 0 * x.getD k 0 ∧ dt w x k + w.getD k 0 * x.getD k 0 ≤ 1280000 * (szs w k + max (w.getD k 0) (-(w.getD k 0)))
    omega
theorem in_upto {lo hi : Int} {l : List Int} {k : Nat} (h : ∀ u, u < k → lo ≤ l.getD u 0 ∧ l.getD u 0 ≤ hi) (hk : l.length ≤ k) : inB lo hi l = true := by
  refine List.all_eq_true.2 (fun z hz => ?_)
  obtain ⟨i, hi', rfl⟩ := List.getElem_of_mem hz
  have h4 := h i (by omega)
  rw [List.getD_eq_getElem?_getD, List.getElem?_eq_getElem hi'] at h4
  exact decide_eq_true h4
theorem in_not {lo hi : Int} {l : List Int} {k : Nat} (hk : k < l.length) (h : ¬ (lo ≤ l.getD k 0 ∧ l.getD k 0 ≤ hi)) : ¬ inB lo hi l = true := fun q => h (in_all q hk)
theorem up_step {lo hi : Int} {l : List Int} {k : Nat} (h : ∀ u, u < k → lo ≤ l.getD u 0 ∧ l.getD u 0 ≤ hi) (h2 : lo ≤ l.getD k 0 ∧ l.getD k 0 ≤ hi) : ∀ u, u < k + 1 → lo ≤ l.getD u 0 ∧ l.getD u 0 ≤ hi := fun u hu => by
  by_cases q : u = k
  · subst q; exact h2
  · exact h u (by omega)
def VP1 (w : List Int) : Prop := w.length ≤ 65 ∧ WOk w w.length
def VP2 (w x : List Int) : Prop := x.length = w.length ∧ inB (-1280000) 1280000 x = true
noncomputable def vc (w x : List Int) : Int := @ite _ (VP1 w) (Classical.propDecidable _) (@ite _ (VP2 w x) (Classical.propDecidable _) 0 25) 27
noncomputable def vv (w x : List Int) : Int := @ite _ (VP1 w) (Classical.propDecidable _) (@ite _ (VP2 w x) (Classical.propDecidable _) (dt w x w.length) 0) 0
theorem v_27 {w x : List Int} (h : ¬ VP1 w) : Value.tuple #[.int .i64 0, .int .i64 27] = .tuple #[.int .i64 (vv w x), .int .i64 (vc w x)] := by unfold vv vc; rw [if_neg h, if_neg h]
theorem v_25 {w x : List Int} (h : VP1 w) (h2 : ¬ VP2 w x) : Value.tuple #[.int .i64 0, .int .i64 25] = .tuple #[.int .i64 (vv w x), .int .i64 (vc w x)] := by unfold vv vc; rw [if_pos h, if_pos h, if_neg h2, if_neg h2]
theorem v_0 {w x : List Int} (h : VP1 w) (h2 : VP2 w x) : Value.tuple #[.int .i64 (dt w x w.length), .int .i64 0] = .tuple #[.int .i64 (vv w x), .int .i64 (vc w x)] := by unfold vv vc; rw [if_pos h, if_pos h, if_pos h2, if_pos h2]

section
variable {X : FuncId → List Value → St → (Value → St → Bool) → Bool}
theorem CheckCycle_v (n : Nat) (M : Nat) (al : Option Addr) (cl : Nat) (ls : List (List Int)) (ax : Option Addr) (cx : Nat) (x : List Int) (s : St) (hs : Wf s) (hn : 1688849860263936 ≤ n) (hL : RowsE s 4 al ls) (hX : IntsE s ax x) (hsys : sysE (M : Int) ls = 0) : Spec Tryz.prog (tabK tabw) X (n + 2500) 13 [.agg ⟨[.int .i64 (M : Int), .slice al ls.length cl]⟩, .slice ax x.length cx] s (fun v A => v = .int .i64 (ccE ls x) ∧ A = []) := by
 refine enter bw13_at rfl hs ?_
 unfold bw13
 have hlen := hL.len
 have hlenX := hX.len
 obtain ⟨hm0, hM, h400, hlm⟩ := sysE_ok hsys
 refine rS (kO rfl (a_box rfl rfl rfl (fun b1 => (kM rfl rfl (i_nil (rQ (rS (kO rfl (a_lda rfl (by decide) .here rfl (kO rfl (a_callV rfl rfl (fun s1 h1 => Check_s _ _ _ _ _ s1 h1.wf (by omega) (hL.ext hs h1.2.1)) (kM rfl rfl (i_nil (rS (kM rfl rfl (kO rfl (a_neq rfl rfl (fun h2 => ?_) (fun h2 => ?_))))))))))))))))))
 ·exfalso; omega
 ·refine i_nil (r_cond_f rfl (r_skip (then_n (rQ (rS (kM rfl rfl (kO rfl (a_lenx rfl hX.spot (kO rfl (a_eql rfl rfl (fun h3 => ?_) (fun h3 => ?_)))))))))))
  ·have hbad : ¬ Chn ls x := fun q => by have := q.pos; omega
   refine kM rfl rfl (i_no rfl rfl (i_no rfl rfl (i_no rfl rfl (kO rfl (a_pick_t rfl rfl rfl (kM rfl rfl (i_no rfl rfl (i_no rfl rfl (i_no rfl rfl (i_no rfl rfl (kO rfl (a_pick_t rfl rfl rfl (i_nil (r_cond_t rfl (rS (kM rfl rfl (i_nil (r_ret (then_r ?_)))))))))))))))))))
   exact end1 rfl ⟨by rw [cc_no hbad], rfl⟩
  ·refine kM rfl rfl (kG rfl rfl (a_mov rfl (kG rfl rfl (a_lenx rfl hX.spot (kG rfl rfl (a_gtr rfl rfl (fun h4 => ?_) (fun h4 => ?_)))))))
   ·have hbad : ¬ Chn ls x := fun q => by have := q.len; omega
    refine kO rfl (a_pick_f rfl rfl rfl (kM rfl rfl (i_no rfl rfl (i_no rfl rfl (i_no rfl rfl (i_no rfl rfl (kO rfl (a_pick_t rfl rfl rfl (i_nil (r_cond_t rfl (rS (kM rfl rfl (i_nil (r_ret (then_r ?_)))))))))))))))
    exact end1 rfl ⟨by rw [cc_no hbad], rfl⟩
   ·refine kO rfl (a_pick_f rfl rfl rfl (kM rfl rfl (kG rfl rfl (a_lda rfl (by decide) .here rfl (kG rfl rfl (a_mov rfl (kG rfl rfl (a_inl rfl rfl bw33_at rfl ?_))))))))
    unfold bw33
    refine rS (kO rfl (a_box rfl rfl rfl (fun b5 => (kM rfl rfl (i_nil (rS (kM rfl rfl (kO rfl (a_fn rfl rfl (kG rfl rfl (a_inl rfl rfl bw49_at rfl ?_)))))))))))
    unfold bw49
    refine rS (kM rfl rfl (i_nil (rS (kM rfl rfl (kM rfl rfl (kG rfl rfl (a_inl rfl rfl bw70_at rfl ?_)))))))
    unfold bw70
    refine rS (kM rfl rfl (i_nil (rQ (rS (kM rfl rfl (kO rfl (a_lenx rfl hX.spot (kM rfl rfl (i_nil (r_block (r_loop (fun j e A => ∃ (t : Nat), e = [(0, .slice ax x.length cx), (1, .func (.func 50) ⟨[]⟩ ⟨[.pointer (some ⟨b5, 0, none⟩)]⟩), (7, .int .i64 (x.length : Int)), (8, .int .i64 (t : Int))] ∧ A = (.row b5 24 false ([.int .i64 (M : Int), .slice al ls.length cl]) :: (.row b1 24 false ([.int .i64 (M : Int), .slice al ls.length cl]) :: [])) ∧ j = x.length - t ∧ t ≤ x.length ∧ IxB ls x t) 400 281474976710656 281474976710656 ?_ (j := _) (env2 := _) (A2 := _) ?_ ?_ ?_ ?_ ⟨0, rfl, rfl, rfl, Nat.zero_le _, ix_zero⟩)))))))))))
    rotate_left
    ·omega
    ·omega
    ·exact (lc 0 rfl (lc 1 rfl (lc 7 rfl (lc 8 rfl Less.nil))))
    ·exact (.cons_cons _ (.cons_cons _ .slnil))
    rintro n hn j _ _ ⟨t, rfl, rfl, rfl, ht, hix⟩
    refine rS (kO rfl (a_lss rfl rfl (fun h6 => ?_) (fun h6 => ?_)))
    ·refine i_nil (rQ (r_cond_t rfl (r_skip (then_n (rQ (r_block (rS (kM rfl rfl (kM rfl rfl (i_nil (rS (kM rfl rfl (kM rfl rfl (kM rfl rfl (kO rfl (a_iaI (j := t) hX rfl rfl (by omega) (by first | rfl | omega) (by omega) (fun _ _ a7 => (kO rfl (a_ldr rfl (hX.at a7 (by omega)) (kG rfl rfl (a_inl rfl rfl bw50_at rfl ?_)))))))))))))))))))))
     unfold bw50
     refine rS (kM rfl rfl (i_nil (rS (kM rfl rfl (kO rfl (a_fa rfl (kO rfl (a_ld rfl .here rfl (kO rfl (a_lenx rfl (by first | exact hL.spot | exact hX.spot) (kO rfl (a_sub rfl rfl (by omega) (kO rfl (a_callB rfl rfl (fun s1 h1 => inside_s _ _ _ _ s1 h1.wf) (fun h8 => ?_) (fun h8 => ?_)))))))))))))))
     ·refine kO rfl (a_not rfl (kM rfl rfl (i_nil (r_ret (endD1 rfl .nil (i_nil (r_cond_f rfl (r_skip (block_n (then_n (rI (kO rfl (a_add rfl rfl (by omega) (kM rfl rfl (i_nil (then_n ?_))))))))))))))))
      exact ⟨rfl, _, _, _, (show x.length - (t + 1) < x.length - t by omega), (lc 0 rfl (lc 1 rfl (lc 7 rfl (lc 8 rfl Less.nil)))), (.cons_cons _ (.cons_cons _ .slnil)), ⟨t + 1, rfl, rfl, rfl, by omega, (ix_step hix (by omega))⟩⟩
     ·have hbad : ¬ Chn ls x := fun q => by obtain ⟨i, e, hi⟩ := q.ix t (by omega); omega
      refine kO rfl (a_not rfl (kM rfl rfl (i_nil (r_ret (endD1 rfl .nil (i_nil (r_cond_t rfl (rS (kM rfl rfl (kM rfl rfl (i_nil (r_ret (block_r (then_r (then_r (block_r (then_r (endD1 rfl .nil (kO rfl (a_geq rfl rfl (fun h9 => ?_) (fun h9 => ?_)))))))))))))))))))))
      ·refine kM rfl rfl (i_nil (r_ret (endD1 rfl .nil (kO rfl (a_not rfl (kM rfl rfl (i_nil (r_ret (endD1 rfl .nil (kG rfl rfl (a_not rfl (kO rfl (a_pick_f rfl rfl rfl (i_nil (r_cond_t rfl (rS (kM rfl rfl (i_nil (r_ret (then_r ?_))))))))))))))))))))
       exact end1 rfl ⟨by rw [cc_no hbad], rfl⟩
      ·exfalso; omega
    ·have hte0 : t = x.length := by omega
     have hall : IxB ls x x.length := hte0 ▸ hix
     refine i_nil (rQ (r_cond_f rfl (r_exit (then_e (then_e (block_hit (then_n (rS (kM rfl rfl (i_nil (r_ret (endD1 rfl .nil (kO rfl (a_geq rfl rfl (fun h => absurd h (by decide)) (fun _ => (kM rfl rfl (i_nil (r_ret (endD1 rfl .nil (kO rfl (a_not rfl (kM rfl rfl (i_nil (r_ret (endD1 rfl .nil (kG rfl rfl (a_not rfl ?_)))))))))))))))))))))))))))
     refine kO rfl (a_pick_f rfl rfl rfl (i_nil (r_cond_f rfl (r_skip (then_n (rS (kO rfl (a_fa rfl (kO rfl (a_ld rfl (.next .here) rfl (kM rfl rfl (kM rfl rfl (kO rfl (a_lenx rfl hX.spot (kO rfl (a_sub rfl rfl (by omega) (kO rfl (a_iaI (j := (x.length - 1)) hX rfl rfl (by omega) (by first | rfl | omega) (by omega) (fun _ _ a11 => (kO rfl (a_ldr rfl (hX.at a11 (by omega)) ?_)))))))))))))))))))))
     obtain ⟨it, hit, hil⟩ := hall (x.length - 1) (by omega)
     rw [hit]
     obtain ⟨q9, o9, aLz⟩ := lim_adr hL (by omega)
     obtain ⟨y3, hats⟩ := lim_at hL aLz hlm hil
     refine kO rfl (a_iaA (j := it) aLz rfl rfl (by first | rfl | omega) (by first | decide | omega) (kO rfl (a_ldar rfl (by decide) hats rfl (kO rfl (a_new rfl rfl (fun b12 => (kM rfl rfl (kZ rfl (a_sta rfl rfl .here rfl rfl rfl rfl (i_nil (rQ (rS (kM rfl rfl (kO rfl (a_lenx rfl hX.spot (kM rfl rfl (i_nil (r_block (r_loop (fun j e A => ∃ (t pv : Nat) (yv : Int), e = [(1, .slice ax x.length cx), (2, .pointer (some ⟨b1, 0, none⟩)), (6, .int .i64 (csum ls x t)), (7, .pointer (some ⟨b12, 0, none⟩)), (39, .slice ax x.length cx), (40, .int .i64 (x.length : Int)), (41, .int .i64 (t : Int))] ∧ A = (.row b12 55 false ([.int .i64 (la ls pv : Int), .int .i64 (lb ls pv : Int), .int .i64 (lw ls pv), .int .i64 yv]) :: (.row b1 24 false ([.int .i64 (M : Int), .slice al ls.length cl]) :: [])) ∧ j = x.length - t ∧ t ≤ x.length ∧ x.getD (pix x t) 0 = (pv : Int) ∧ ∀ u, u < t → lb ls (x.getD (pix x u) 0).toNat = la ls (x.getD u 0).toNat) 400 0 281474976710656 ?_ (j := _) (env2 := _) (A2 := _) ?_ ?_ ?_ ?_ ⟨0, it, y3, rfl, rfl, rfl, Nat.zero_le _, hit, (fun u hu => absurd hu (Nat.not_lt_zero u))⟩)))))))))))))))))))
     rotate_left
     ·omega
     ·omega
     ·exact (lc 1 rfl (lc 2 rfl (lc 6 rfl (lc 7 rfl (lc 39 rfl (lc 40 rfl (lc 41 rfl Less.nil)))))))
     ·exact (.cons_cons _ (.cons _ (.cons_cons _ .slnil)))
     rintro n hn j _ _ ⟨t, pv, yv, rfl, rfl, rfl, ht, hpv, hadj⟩
     refine rS (kO rfl (a_lss rfl rfl (fun h13 => ?_) (fun h13 => ?_)))
     ·refine i_nil (rQ (r_cond_t rfl (r_skip (then_n (rQ (r_block (rS (kO rfl (a_iaI (j := t) hX rfl rfl (by omega) (by first | rfl | omega) (by omega) (fun _ _ a14 => (kO rfl (a_ldr rfl (hX.at a14 (by omega)) ?_))))))))))))
      obtain ⟨it, hit, hil⟩ := hall t (by omega)
      rw [hit]
      obtain ⟨q9, o9, aLz⟩ := lim_adr hL (by omega)
      obtain ⟨y3, hats⟩ := lim_at hL aLz hlm hil
      have hcb := csum_bd2 hlm hall (t := t) (by omega)
      have hwb := lw_bd hlm hil
      refine kM rfl rfl (i_nil (rQ (rS (kO rfl (a_fa rfl (kO rfl (a_ld rfl (.next .here) rfl (kM rfl rfl (kO rfl (a_iaA (j := it) aLz rfl rfl (by first | rfl | omega) (by first | decide | omega) (kO rfl (a_fa rfl (kO rfl (a_ldr rfl (lim_a hL aLz hlm hil) (kO rfl (a_fa rfl (kO rfl (a_ld rfl .here rfl (kO rfl (a_neq rfl rfl (fun h15 => ?_) (fun h15 => ?_)))))))))))))))))))))
      ·have hbad : ¬ Chn ls x := fun q => by have e := q.adj (t := t) (by omega); rw [hpv, hit, Int.toNat_natCast, Int.toNat_natCast] at e; omega
       refine i_nil (r_cond_t rfl (rS (kM rfl rfl (i_nil (r_ret (then_r (block_r (then_r (then_r (block_r (then_r ?_)))))))))))
       exact end1 rfl ⟨by rw [cc_no hbad], rfl⟩
      ·refine i_nil (r_cond_f rfl (r_skip (then_n (rS (kO rfl (a_fa rfl (kO rfl (a_ld rfl (.next .here) rfl (kM rfl rfl (kO rfl (a_iaA (j := it) aLz rfl rfl (by first | rfl | omega) (by first | decide | omega) (kO rfl (a_ldar rfl (by decide) hats rfl (kZ rfl (a_sta rfl rfl .here rfl rfl rfl rfl (i_nil (rI (kM rfl rfl (kO rfl (a_fa rfl (kO rfl (a_ld rfl .here rfl (kO rfl (a_add rfl rfl (by omega) (kM rfl rfl (i_nil (block_n (then_n (rI (kO rfl (a_add rfl rfl (by omega) (kM rfl rfl ?_))))))))))))))))))))))))))))))))
       refine i_nil (then_n ?_)
       exact ⟨rfl, _, _, _, (show x.length - (t + 1) < x.length - t by omega), (lc 1 rfl (lc 2 rfl (lc 6 rfl (lc 7 rfl (lc 39 rfl (lc 40 rfl (lc 41 rfl Less.nil))))))), (.cons_cons _ (.cons_cons _ .slnil)), ⟨t + 1, it, y3, (by rw [← csum_step hit]; rfl), rfl, rfl, by omega, hit, (adj_step hadj hpv hit (by omega))⟩⟩
     ·have hte : t = x.length := by omega
      refine i_nil (rQ (r_cond_f rfl (r_exit (then_e (then_e (block_hit (then_n (rQ (rS (kM rfl rfl (kO rfl (a_geq rfl rfl (fun h16 => ?_) (fun h16 => ?_)))))))))))))
      ·have hbad : ¬ Chn ls x := fun q => by have := q.neg; rw [← hte] at this; omega
       refine i_nil (r_cond_t rfl (rS (kM rfl rfl (i_nil (r_ret (then_r ?_))))))
       exact end1 rfl ⟨by rw [cc_no hbad], rfl⟩
      ·have hgood : Chn ls x := chn_mk (by omega) (by omega) hall (fun u hu => hadj u (by omega)) (by rw [← hte]; omega)
       refine i_nil (r_cond_f rfl (r_skip (then_n (rS (kM rfl rfl (i_nil (r_ret ?_)))))))
       exact end1 rfl ⟨by rw [cc_yes hgood], rfl⟩

theorem CheckCycle_e (n : Nat) (m : Int) (al : Option Addr) (cl : Nat) (ls : List (List Int)) (ax : Option Addr) (cx : Nat) (x : List Int) (s : St) (hs : Wf s) (hn : 1688849860263936 ≤ n) (hL : RowsE s 4 al ls) (hX : IntsE s ax x) (hne : ¬ sysE m ls = 0) : Spec Tryz.prog (tabK tabw) X (n + 2500) 13 [.agg ⟨[.int .i64 m, .slice al ls.length cl]⟩, .slice ax x.length cx] s (fun v A => v = .int .i64 (sysE m ls) ∧ A = []) := by
 refine enter bw13_at rfl hs ?_
 unfold bw13
 have hlen := hL.len
 have hlenX := hX.len
 refine rS (kO rfl (a_box rfl rfl rfl (fun b1 => (kM rfl rfl (i_nil (rQ (rS (kO rfl (a_lda rfl (by decide) .here rfl (kO rfl (a_callV rfl rfl (fun s1 h1 => Check_s _ _ _ _ _ s1 h1.wf (by omega) (hL.ext hs h1.2.1)) (kM rfl rfl (i_nil (rS (kM rfl rfl (kO rfl (a_neq rfl rfl (fun h2 => ?_) (fun h2 => ?_))))))))))))))))))
 ·refine i_nil (r_cond_t rfl (rS (kM rfl rfl (kM rfl rfl (i_nil (r_ret (then_r ?_)))))))
  exact end1 rfl ⟨rfl, rfl⟩
 ·exfalso; omega

theorem rCheckCycle_v (n : Nat) (M : Nat) (al : Option Addr) (cl : Nat) (ls : List (List Int)) (ax : Option Addr) (cx : Nat) (x : List Int) (s : St) (hs : Wf s) (hn : 1688849860263936 ≤ n) (hL : RowsE s 4 al ls) (hX : IntsE s ax x) (hsys : sysE (M : Int) ls = 0) : Spec Tryz.prog (tabK tabw) X (n + 2500) 14 [.agg ⟨[.int .i64 (M : Int), .slice al ls.length cl]⟩, .slice ax x.length cx] s (fun v A => v = .int .i64 (ccE ls x) ∧ A = []) := by
 refine enter bw14_at rfl hs ?_
 unfold bw14
 have hlen := hL.len
 have hlenX := hX.len
 obtain ⟨hm0, hM, h400, hlm⟩ := sysE_ok hsys
 refine rS (kO rfl (a_box rfl rfl rfl (fun b1 => (kM rfl rfl (i_nil (rS (kO rfl (a_lda rfl (by decide) .here rfl (kO rfl (a_callV rfl rfl (fun s1 h1 => rCheck_s _ _ _ _ _ s1 h1.wf (by omega) (hL.ext hs h1.2.1)) (kM rfl rfl (i_nil (rQ (rS (kM rfl rfl (kO rfl (a_neq rfl rfl (fun h2 => ?_) (fun h2 => ?_))))))))))))))))))
 ·exfalso; omega
 ·refine i_nil (r_cond_f rfl (r_skip (then_n (rQ (rS (kM rfl rfl (kO rfl (a_lenx rfl hX.spot (kO rfl (a_eql rfl rfl (fun h3 => ?_) (fun h3 => ?_)))))))))))
  ·have hbad : ¬ Chn ls x := fun q => by have := q.pos; omega
   refine kM rfl rfl (i_no rfl rfl (i_no rfl rfl (i_no rfl rfl (kO rfl (a_pick_t rfl rfl rfl (i_nil (r_cond_t rfl (rS (kM rfl rfl (i_nil (r_ret (then_r ?_))))))))))))
   exact end1 rfl ⟨by rw [cc_no hbad], rfl⟩
  ·refine kM rfl rfl (kG rfl rfl (a_mov rfl (kG rfl rfl (a_lenx rfl hX.spot (kG rfl rfl (a_gtr rfl rfl (fun h4 => ?_) (fun h4 => ?_)))))))
   ·have hbad : ¬ Chn ls x := fun q => by have := q.len; omega
    refine kO rfl (a_pick_f rfl rfl rfl (i_nil (r_cond_t rfl (rS (kM rfl rfl (i_nil (r_ret (then_r ?_))))))))
    exact end1 rfl ⟨by rw [cc_no hbad], rfl⟩
   ·refine kO rfl (a_pick_f rfl rfl rfl (i_nil (r_cond_f rfl (r_skip (then_n (rS (kM rfl rfl (i_nil (rQ (rS (kM rfl rfl (kO rfl (a_lenx rfl hX.spot (kM rfl rfl (i_nil (r_block (r_loop (fun j e A => ∃ (t : Nat), e = [(1, .slice ax x.length cx), (2, .pointer (some ⟨b1, 0, none⟩)), (6, .int .i64 (csum ls x t)), (22, .slice ax x.length cx), (23, .int .i64 (x.length : Int)), (24, .int .i64 (t : Int))] ∧ A = (.row b1 24 false ([.int .i64 (M : Int), .slice al ls.length cl]) :: []) ∧ j = x.length - t ∧ t ≤ x.length ∧ IxB ls x t ∧ ∀ u, u + 1 < t → lb ls (x.getD u 0).toNat = la ls (x.getD (u + 1) 0).toNat) 400 0 281474976710656 ?_ (j := _) (env2 := _) (A2 := _) ?_ ?_ ?_ ?_ ⟨0, rfl, rfl, rfl, Nat.zero_le _, ix_zero, (fun u hu => absurd hu (Nat.not_lt_zero _))⟩)))))))))))))))))
    rotate_left
    ·omega
    ·omega
    ·exact (lc 1 rfl (lc 2 rfl (lc 6 rfl (lc 22 rfl (lc 23 rfl (lc 24 rfl Less.nil))))))
    ·exact (.cons_cons _ .slnil)
    rintro n hn j _ _ ⟨t, rfl, rfl, rfl, ht, hix, hnx⟩
    refine rS (kO rfl (a_lss rfl rfl (fun h5 => ?_) (fun h5 => ?_)))
    ·refine i_nil (rQ (r_cond_t rfl (r_skip (then_n (rQ (r_block (rS (kM rfl rfl (kO rfl (a_iaI (j := t) hX rfl rfl (by omega) (by first | rfl | omega) (by omega) (fun _ _ a6 => (kO rfl (a_ldr rfl (hX.at a6 (by omega)) (kM rfl rfl (kM rfl rfl (i_nil (rQ (rS (kM rfl rfl (kO rfl (a_fa rfl (kO rfl (a_ld rfl .here rfl (kO rfl (a_lenx rfl (by first | exact hL.spot | exact hX.spot) (kO rfl (a_sub rfl rfl (by omega) (kO rfl (a_callB rfl rfl (fun s1 h1 => rwithin_s _ _ _ _ s1 h1.wf) (fun h7 => ?_) (fun h7 => ?_))))))))))))))))))))))))))))))
     ·have h34 := h7
      obtain ⟨it, hit, hil⟩ := nat_I h34
      rw [hit]
      obtain ⟨q9, o9, aLz⟩ := lim_adr hL (by omega)
      have hcb := csum_bd2 hlm hix (t := t) (Nat.le_refl _)
      have hwb := lw_bd hlm hil
      refine kO rfl (a_not rfl (kM rfl rfl (kG rfl rfl (a_mov rfl (kG rfl rfl (a_gtr rfl rfl (fun h8 => ?_) (fun h8 => ?_)))))))
      ·refine kG rfl rfl (a_mov rfl (kG rfl rfl (a_fa rfl (kG rfl rfl (a_ld rfl .here rfl (kG rfl rfl (a_mov rfl (kG rfl rfl (a_mov rfl (kG rfl rfl (a_sub rfl rfl (by omega) (kG rfl rfl (a_iaI (j := (t - 1)) hX rfl rfl (by omega) (by first | rfl | omega) (by omega) (fun _ _ a9 => (kG rfl rfl (a_ldr rfl (hX.at a9 (by omega)) ?_))))))))))))))))
       obtain ⟨ip, hip, hipl⟩ := hix (t - 1) (by omega)
       rw [hip]
       refine kG rfl rfl (a_iaA (j := ip) aLz rfl rfl (by first | rfl | omega) (by first | decide | omega) (kG rfl rfl (a_fa rfl (kG rfl rfl (a_ldr rfl (lim_b hL aLz hlm hipl) (kG rfl rfl (a_fa rfl (kG rfl rfl (a_ld rfl .here rfl (kG rfl rfl (a_mov rfl (kG rfl rfl (a_iaA (j := it) aLz rfl rfl (by first | rfl | omega) (by first | decide | omega) (kG rfl rfl (a_fa rfl (kG rfl rfl (a_ldr rfl (lim_a hL aLz hlm hil) (kG rfl rfl (a_neq rfl rfl (fun h10 => ?_) (fun h10 => ?_))))))))))))))))))))
       ·have hbad : ¬ Chn ls x := fun q => by have e := q.nx (t - 1) (by omega); rw [show t - 1 + 1 = t by omega, hip, hit, Int.toNat_natCast, Int.toNat_natCast] at e; omega
        refine kG rfl rfl (a_pick_t rfl rfl rfl (kO rfl (a_pick_f rfl rfl rfl (i_nil (r_cond_t rfl (rS (kM rfl rfl (i_nil (r_ret (then_r (block_r (then_r (then_r (block_r (then_r ?_)))))))))))))))
        exact end1 rfl ⟨by rw [cc_no hbad], rfl⟩
       ·refine kG rfl rfl (a_pick_t rfl rfl rfl (kO rfl (a_pick_f rfl rfl rfl (i_nil (r_cond_f rfl (r_skip (then_n (rI (kM rfl rfl (kO rfl (a_fa rfl (kO rfl (a_ld rfl .here rfl (kM rfl rfl (kO rfl (a_iaA (j := it) aLz rfl rfl (by first | rfl | omega) (by first | decide | omega) (kO rfl (a_fa rfl (kO rfl (a_ldr rfl (lim_w hL aLz hlm hil) (kO rfl (a_add rfl rfl (by omega) (kM rfl rfl (i_nil (block_n (then_n (rI (kO rfl (a_add rfl rfl (by omega) (kM rfl rfl (i_nil (then_n ?_))))))))))))))))))))))))))))))))
        exact ⟨rfl, _, _, _, (show x.length - (t + 1) < x.length - t by omega), (lc 1 rfl (lc 2 rfl (lc 6 rfl (lc 22 rfl (lc 23 rfl (lc 24 rfl Less.nil)))))), (.cons_cons _ .slnil), ⟨t + 1, (by rw [← csum_step hit]; rfl), rfl, rfl, by omega, (ix_step hix (by omega)), (by first | exact nx_zero (by omega) | exact nx_step hnx hit hip (by omega))⟩⟩
      ·refine kG rfl rfl (a_mov rfl (i_no rfl rfl (i_no rfl rfl (i_no rfl rfl (i_no rfl rfl (i_no rfl rfl (i_no rfl rfl (i_no rfl rfl (i_no rfl rfl (i_no rfl rfl (i_no rfl rfl (i_no rfl rfl (i_no rfl rfl (i_no rfl rfl (i_no rfl rfl (i_no rfl rfl (i_no rfl rfl (i_no rfl rfl (kG rfl rfl (a_pick_f rfl rfl rfl (kO rfl (a_pick_f rfl rfl rfl (i_nil (r_cond_f rfl (r_skip (then_n ?_))))))))))))))))))))))))))
       refine rI (kM rfl rfl (kO rfl (a_fa rfl (kO rfl (a_ld rfl .here rfl (kM rfl rfl (kO rfl (a_iaA (j := it) aLz rfl rfl (by first | rfl | omega) (by first | decide | omega) (kO rfl (a_fa rfl (kO rfl (a_ldr rfl (lim_w hL aLz hlm hil) (kO rfl (a_add rfl rfl (by omega) (kM rfl rfl (i_nil (block_n (then_n (rI (kO rfl (a_add rfl rfl (by omega) (kM rfl rfl (i_nil (then_n ?_))))))))))))))))))))))))
       exact ⟨rfl, _, _, _, (show x.length - (t + 1) < x.length - t by omega), (lc 1 rfl (lc 2 rfl (lc 6 rfl (lc 22 rfl (lc 23 rfl (lc 24 rfl Less.nil)))))), (.cons_cons _ .slnil), ⟨t + 1, (by rw [← csum_step hit]; rfl), rfl, rfl, by omega, (ix_step hix (by omega)), (by first | exact nx_zero (by omega) | exact nx_step hnx hit hip (by omega))⟩⟩
     ·have hbad : ¬ Chn ls x := fun q => by obtain ⟨i, e, hi⟩ := q.ix t (by omega); omega
      refine kO rfl (a_not rfl (kM rfl rfl (i_no rfl rfl (i_no rfl rfl (i_no rfl rfl (i_no rfl rfl (i_no rfl rfl (i_no rfl rfl (i_no rfl rfl (i_no rfl rfl (i_no rfl rfl (i_no rfl rfl (i_no rfl rfl (i_no rfl rfl (i_no rfl rfl (i_no rfl rfl (i_no rfl rfl (i_no rfl rfl (i_no rfl rfl (i_no rfl rfl (i_no rfl rfl (i_no rfl rfl (i_no rfl rfl (kO rfl (a_pick_t rfl rfl rfl ?_)))))))))))))))))))))))))
      refine i_nil (r_cond_t rfl (rS (kM rfl rfl (i_nil (r_ret (then_r (block_r (then_r (then_r (block_r (then_r ?_)))))))))))
      exact end1 rfl ⟨by rw [cc_no hbad], rfl⟩
    ·have hte : t = x.length := by omega
     have hall : IxB ls x x.length := hte ▸ hix
     obtain ⟨it, hit, hil⟩ := hall (x.length - 1) (by omega)
     obtain ⟨i0, hi0, hi0l⟩ := hall 0 (by omega)
     obtain ⟨q9, o9, aLz⟩ := lim_adr hL (by omega)
     refine i_nil (rQ (r_cond_f rfl (r_exit (then_e (then_e (block_hit (then_n (rQ (rS (kO rfl (a_fa rfl (kO rfl (a_ld rfl .here rfl (kM rfl rfl (kM rfl rfl (kO rfl (a_lenx rfl hX.spot (kO rfl (a_sub rfl rfl (by omega) (kO rfl (a_iaI (j := (x.length - 1)) hX rfl rfl (by omega) (by first | rfl | omega) (by omega) (fun _ _ a11 => (kO rfl (a_ldr rfl (hX.at a11 (by omega)) ?_))))))))))))))))))))))))
     rw [hit]
     refine kO rfl (a_iaA (j := it) aLz rfl rfl (by first | rfl | omega) (by first | decide | omega) (kO rfl (a_fa rfl (kO rfl (a_ldr rfl (lim_b hL aLz hlm hil) (kO rfl (a_fa rfl (kO rfl (a_ld rfl .here rfl (kM rfl rfl (kO rfl (a_iaI (j := 0) hX rfl rfl (by omega) (by first | rfl | omega) (by omega) (fun _ _ a12 => (kO rfl (a_ldr rfl (hX.at a12 (by omega)) ?_)))))))))))))))
     rw [hi0]
     refine kO rfl (a_iaA (j := i0) aLz rfl rfl (by first | rfl | omega) (by first | decide | omega) (kO rfl (a_fa rfl (kO rfl (a_ldr rfl (lim_a hL aLz hlm hi0l) (kO rfl (a_neq rfl rfl (fun h13 => ?_) (fun h13 => ?_))))))))
     ·have hbad : ¬ Chn ls x := fun q => by have e := q.cl; rw [hit, hi0, Int.toNat_natCast, Int.toNat_natCast] at e; omega
      refine kM rfl rfl (i_no rfl rfl (i_no rfl rfl (kO rfl (a_pick_t rfl rfl rfl (i_nil (r_cond_t rfl (rS (kM rfl rfl (i_nil (r_ret (then_r ?_)))))))))))
      exact end1 rfl ⟨by rw [cc_no hbad], rfl⟩
     ·refine kM rfl rfl (kG rfl rfl (a_mov rfl (kG rfl rfl (a_geq rfl rfl (fun h14 => ?_) (fun h14 => ?_)))))
      ·have hbad : ¬ Chn ls x := fun q => by have := q.neg; rw [← hte] at this; omega
       refine kO rfl (a_pick_f rfl rfl rfl (i_nil (r_cond_t rfl (rS (kM rfl rfl (i_nil (r_ret (then_r ?_))))))))
       exact end1 rfl ⟨by rw [cc_no hbad], rfl⟩
      ·have hgood : Chn ls x := ⟨by omega, by omega, hall, fun u hu => hnx u (by omega), by rw [hit, hi0, Int.toNat_natCast, Int.toNat_natCast]; omega, by rw [← hte]; omega⟩
       refine kO rfl (a_pick_f rfl rfl rfl (i_nil (r_cond_f rfl (r_skip (then_n (rS (kM rfl rfl (i_nil (r_ret ?_)))))))))
       exact end1 rfl ⟨by rw [cc_yes hgood], rfl⟩

theorem rCheckCycle_e (n : Nat) (m : Int) (al : Option Addr) (cl : Nat) (ls : List (List Int)) (ax : Option Addr) (cx : Nat) (x : List Int) (s : St) (hs : Wf s) (hn : 1688849860263936 ≤ n) (hL : RowsE s 4 al ls) (hX : IntsE s ax x) (hne : ¬ sysE m ls = 0) : Spec Tryz.prog (tabK tabw) X (n + 2500) 14 [.agg ⟨[.int .i64 m, .slice al ls.length cl]⟩, .slice ax x.length cx] s (fun v A => v = .int .i64 (sysE m ls) ∧ A = []) := by
 refine enter bw14_at rfl hs ?_
 unfold bw14
 have hlen := hL.len
 have hlenX := hX.len
 refine rS (kO rfl (a_box rfl rfl rfl (fun b1 => (kM rfl rfl (i_nil (rS (kO rfl (a_lda rfl (by decide) .here rfl (kO rfl (a_callV rfl rfl (fun s1 h1 => rCheck_s _ _ _ _ _ s1 h1.wf (by omega) (hL.ext hs h1.2.1)) (kM rfl rfl (i_nil (rQ (rS (kM rfl rfl (kO rfl (a_neq rfl rfl (fun h2 => ?_) (fun h2 => ?_))))))))))))))))))
 ·refine i_nil (r_cond_t rfl (rS (kM rfl rfl (kM rfl rfl (i_nil (r_ret (then_r ?_)))))))
  exact end1 rfl ⟨rfl, rfl⟩
 ·exfalso; omega

theorem weighs_s (n : Nat) (aw : Option Addr) (cw : Nat) (w : List Int) (s : St) (hs : Wf s) (hn : 281474976710656 ≤ n) (hW : IntsE s aw w) : Spec Tryz.prog (tabK tabw) X (n + 300) 28 [.slice aw w.length cw] s (fun v A => ((WOk w w.length ∧ v = .bool true) ∨ (¬ WOk w w.length ∧ v = .bool false)) ∧ A = []) := by
 refine enter bw28_at rfl hs ?_
 unfold bw28
 have hlen := hW.len
 refine rS (kM rfl rfl (i_nil (rS (kM rfl rfl (i_nil (rQ (rS (kM rfl rfl (kO rfl (a_lenx rfl hW.spot (kM rfl rfl (i_nil (r_block (r_loop (fun j e A => ∃ (k : Nat), e = [(3, .int .i64 (3600000000000 - szs w k)), (6, .slice aw w.length cw), (7, .int .i64 (w.length : Int)), (8, .int .i64 (k : Int))] ∧ A = [] ∧ j = w.length - k ∧ k ≤ w.length ∧ WOk w k) 200 0 281474976710656 ?_ (j := _) (env2 := _) (A2 := _) ?_ ?_ ?_ ?_ ⟨0, rfl, rfl, rfl, Nat.zero_le _, wok_zero⟩))))))))))))))
 rotate_left
 ·omega
 ·omega
 ·exact (lc 3 rfl (lc 6 rfl (lc 7 rfl (lc 8 rfl Less.nil))))
 ·exact .slnil
 rintro n hn j _ _ ⟨k, rfl, rfl, rfl, hk, hw⟩
 have hz1 := szs_pos (w := w) (k := k)
 have hz2 := wok_le hw (Nat.le_refl k)
 refine rS (kO rfl (a_lss rfl rfl (fun h1 => ?_) (fun h1 => ?_)))
 ·have hin := hW.in k
  refine i_nil (rQ (r_cond_t rfl (r_skip (then_n (rQ (r_block (rS (kO rfl (a_iaI (j := k) hW rfl rfl (by omega) (by first | rfl | omega) (by omega) (fun _ _ a2 => (kO rfl (a_ldr rfl (hW.at a2 (by omega)) (kM rfl rfl (i_nil (rQ (rS (kM rfl rfl (kM rfl rfl (kO rfl (a_neg rfl (by omega) (kM rfl rfl (kO rfl (a_callB rfl rfl (fun s1 h1 => inside_s _ _ _ _ s1 h1.wf) (fun h3 => ?_) (fun h3 => ?_))))))))))))))))))))))))
  ·refine kO rfl (a_not rfl (i_nil (r_cond_f rfl (r_skip (then_n (rI (kM rfl rfl (kM rfl rfl (kM rfl rfl (kO rfl (a_neg rfl (by omega) (kO rfl (a_max rfl (kO rfl (a_sub rfl rfl (by omega) (kM rfl rfl (i_nil (block_n (then_n (rI (kO rfl (a_add rfl rfl (by omega) (kM rfl rfl (i_nil (then_n ?_)))))))))))))))))))))))))
   exact ⟨rfl, _, _, _, (show w.length - (k + 1) < w.length - k by omega), (lc 3 rfl (lc 6 rfl (lc 7 rfl (lc 8 rfl Less.nil)))), .slnil, ⟨k + 1, (by rw [show (3600000000000 : Int) - szs w (k + 1) = 3600000000000 - szs w k - max (w.getD k 0) (-(w.getD k 0)) from by show _ - (szs w k + _) = _; omega]; rfl), rfl, rfl, by omega, (wok_step hw (by omega))⟩⟩
  ·refine kO rfl (a_not rfl (i_nil (r_cond_t rfl (rS (kM rfl rfl (i_nil (r_ret (then_r (block_r (then_r (then_r (block_r (then_r ?_)))))))))))))
   exact end1 rfl ⟨.inr ⟨wok_no (k := k) (by omega) (by omega), rfl⟩, rfl⟩
 ·refine i_nil (rQ (r_cond_f rfl (r_exit (then_e (then_e (block_hit (then_n (rS (kM rfl rfl (i_nil (r_ret ?_)))))))))))
  have hkw : k = w.length := by omega
  subst hkw
  exact end1 rfl ⟨.inl ⟨hw, rfl⟩, rfl⟩

theorem sized_s (n : Nat) (aw : Option Addr) (cw : Nat) (w : List Int) (s : St) (hs : Wf s) (hn : 281474976710656 ≤ n) (hW : IntsE s aw w) : Spec Tryz.prog (tabK tabw) X (n + 300) 30 [.slice aw w.length cw] s (fun v A => ((WOk w w.length ∧ v = .bool true) ∨ (¬ WOk w w.length ∧ v = .bool false)) ∧ A = []) := by
 refine enter bw30_at rfl hs ?_
 unfold bw30
 have hlen := hW.len
 refine rS (kM rfl rfl (i_nil (rS (kM rfl rfl (i_nil (rQ (rS (kM rfl rfl (kO rfl (a_lenx rfl hW.spot (kM rfl rfl (i_nil (r_block (r_loop (fun j e A => ∃ (k : Nat), e = [(3, .int .i64 (szs w k)), (6, .slice aw w.length cw), (7, .int .i64 (w.length : Int)), (8, .int .i64 (k : Int))] ∧ A = [] ∧ j = w.length - k ∧ k ≤ w.length ∧ WOk w k) 200 0 281474976710656 ?_ (j := _) (env2 := _) (A2 := _) ?_ ?_ ?_ ?_ ⟨0, rfl, rfl, rfl, Nat.zero_le _, wok_zero⟩))))))))))))))
 rotate_left
 ·omega
 ·omega
 ·exact (lc 3 rfl (lc 6 rfl (lc 7 rfl (lc 8 rfl Less.nil))))
 ·exact .slnil
 rintro n hn j _ _ ⟨k, rfl, rfl, rfl, hk, hw⟩
 have hz1 := szs_pos (w := w) (k := k)
 have hz2 := wok_le hw (Nat.le_refl k)
 refine rS (kO rfl (a_lss rfl rfl (fun h1 => ?_) (fun h1 => ?_)))
 ·have hin := hW.in k
  refine i_nil (rQ (r_cond_t rfl (r_skip (then_n (rQ (r_block (rS (kO rfl (a_iaI (j := k) hW rfl rfl (by omega) (by first | rfl | omega) (by omega) (fun _ _ a2 => (kO rfl (a_ldr rfl (hW.at a2 (by omega)) (kM rfl rfl (i_nil (rQ (rS (kM rfl rfl (kO rfl (a_lss rfl rfl (fun h3 => ?_) (fun h3 => ?_))))))))))))))))))))
  ·refine kM rfl rfl (i_no rfl rfl (i_no rfl rfl (kO rfl (a_pick_t rfl rfl rfl (i_nil (r_cond_t rfl (rS (kM rfl rfl (i_nil (r_ret (then_r (block_r (then_r (then_r (block_r (then_r ?_))))))))))))))))
   exact end1 rfl ⟨.inr ⟨wok_no (k := k) (by omega) (by omega), rfl⟩, rfl⟩
  ·refine kM rfl rfl (kG rfl rfl (a_mov rfl (kG rfl rfl (a_gtr rfl rfl (fun h4 => ?_) (fun h4 => ?_)))))
   ·refine kO rfl (a_pick_f rfl rfl rfl (i_nil (r_cond_t rfl (rS (kM rfl rfl (i_nil (r_ret (then_r (block_r (then_r (then_r (block_r (then_r ?_)))))))))))))
    exact end1 rfl ⟨.inr ⟨wok_no (k := k) (by omega) (by omega), rfl⟩, rfl⟩
   ·refine kO rfl (a_pick_f rfl rfl rfl (i_nil (r_cond_f rfl (r_skip (then_n (rS (kM rfl rfl (kM rfl rfl (kM rfl rfl (kO rfl (a_neg rfl (by omega) (kO rfl (a_max rfl (kO rfl (a_add rfl rfl (by omega) (kM rfl rfl (i_nil (rS (kM rfl rfl (kO rfl (a_gtr rfl rfl (fun h5 => ?_) (fun h5 => ?_))))))))))))))))))))))
    ·refine i_nil (r_cond_t rfl (rS (kM rfl rfl (i_nil (r_ret (block_r (then_r (then_r (block_r (then_r ?_))))))))))
     exact end1 rfl ⟨.inr ⟨wok_no (k := k) (by omega) (by omega), rfl⟩, rfl⟩
    ·refine i_nil (r_cond_f rfl (r_skip (block_n (then_n (rI (kO rfl (a_add rfl rfl (by omega) (kM rfl rfl (i_nil (then_n ?_))))))))))
     exact ⟨rfl, _, _, _, (show w.length - (k + 1) < w.length - k by omega), (lc 3 rfl (lc 6 rfl (lc 7 rfl (lc 8 rfl Less.nil)))), .slnil, ⟨k + 1, rfl, rfl, rfl, by omega, (wok_step hw (by omega))⟩⟩
 ·refine i_nil (rQ (r_cond_f rfl (r_exit (then_e (then_e (block_hit (then_n (rS (kM rfl rfl (i_nil (r_ret ?_)))))))))))
  have hkw : k = w.length := by omega
  subst hkw
  exact end1 rfl ⟨.inl ⟨hw, rfl⟩, rfl⟩

theorem Value_s (n : Nat) (aw : Option Addr) (cw : Nat) (w : List Int) (ax : Option Addr) (cx : Nat) (x : List Int) (s : St) (hs : Wf s) (hn : 562949953421312 ≤ n) (hW : IntsE s aw w) (hX : IntsE s ax x) : Spec Tryz.prog (tabK tabw) X (n + 800) 9 [.slice aw w.length cw, .slice ax x.length cx] s (fun v A => v = .tuple #[.int .i64 (vv w x), .int .i64 (vc w x)] ∧ A = []) := by
 refine enter bw9_at rfl hs ?_
 unfold bw9
 have hlen := hW.len
 have hlenX := hX.len
 refine rS (kM rfl rfl (kM rfl rfl (i_nil (rQ (rS (kM rfl rfl (kO rfl (a_lenx rfl hW.spot (kO rfl (a_gtr rfl rfl (fun h1 => ?_) (fun h1 => ?_)))))))))))
 ·have hno : ¬ VP1 w := fun q => by have := q.1; omega
  refine kM rfl rfl (i_no rfl rfl (i_no rfl rfl (i_no rfl rfl (kO rfl (a_pick_t rfl rfl rfl (i_nil (r_cond_t rfl (rS (kM rfl rfl (kM rfl rfl (i_nil (r_ret (then_r ?_)))))))))))))
  exact end2 rfl rfl ⟨v_27 hno, rfl⟩
 ·refine kM rfl rfl (kG rfl rfl (a_mov rfl (kG rfl rfl (a_call rfl rfl (fun s1 h1 => weighs_s _ _ _ _ s1 h1.wf (by omega) (hW.ext hs h1.2.1)) (fun v1 A1 q1 => ?_)))))
  obtain ⟨q1, rfl⟩ := q1
  rcases q1 with ⟨hwo, rfl⟩ | ⟨hwo, rfl⟩
  ·have hwo1 := hwo
   refine kG rfl rfl (a_not rfl (kO rfl (a_pick_f rfl rfl rfl (i_nil (r_cond_f rfl (r_skip (then_n (rQ (rS (kM rfl rfl (kO rfl (a_lenx rfl hX.spot (kM rfl rfl (kO rfl (a_lenx rfl hW.spot (kO rfl (a_neq rfl rfl (fun h2 => ?_) (fun h2 => ?_))))))))))))))))))
   ·have hno2 : ¬ VP2 w x := fun q => by have := q.1; omega
    refine kM rfl rfl (i_no rfl rfl (i_no rfl rfl (i_no rfl rfl (kO rfl (a_pick_t rfl rfl rfl (i_nil (r_cond_t rfl (rS (kM rfl rfl (kM rfl rfl (i_nil (r_ret (then_r ?_)))))))))))))
    exact end2 rfl rfl ⟨v_25 ⟨by omega, hwo1⟩ hno2, rfl⟩
   ·refine kM rfl rfl (kG rfl rfl (a_mov rfl (kG rfl rfl (a_callb rfl rfl (fun s1 h1 => allInside_s _ _ _ _ _ s1 h1.wf (by omega) (hX.ext hs h1.2.1) (by omega)) (fun h3 => ?_) (fun h3 => ?_)))))
    ·have hyes : VP2 w x := ⟨by omega, h3⟩
     refine kG rfl rfl (a_not rfl (kO rfl (a_pick_f rfl rfl rfl (i_nil (r_cond_f rfl (r_skip (then_n (rS (kM rfl rfl (i_nil (rQ (rS (kM rfl rfl (kO rfl (a_lenx rfl hW.spot (kM rfl rfl (i_nil (r_block (r_loop (fun j e A => ∃ (k : Nat), e = [(0, .slice aw w.length cw), (1, .slice ax x.length cx), (6, .int .i64 (dt w x k)), (27, .slice aw w.length cw), (28, .int .i64 (w.length : Int)), (29, .int .i64 (k : Int))] ∧ A = [] ∧ j = w.length - k ∧ k ≤ w.length) 200 0 281474976710656 ?_ (j := _) (env2 := _) (A2 := _) ?_ ?_ ?_ ?_ ⟨0, rfl, rfl, rfl, Nat.zero_le _⟩)))))))))))))))))))
     rotate_left
     ·omega
     ·omega
     ·exact (lc 0 rfl (lc 1 rfl (lc 6 rfl (lc 27 rfl (lc 28 rfl (lc 29 rfl Less.nil))))))
     ·exact .slnil
     rintro n hn j _ _ ⟨k, rfl, rfl, rfl, hk⟩
     refine rS (kO rfl (a_lss rfl rfl (fun h4 => ?_) (fun h4 => ?_)))
     ·have hxb := in_all hyes.2 (k := k) (by omega)
      have hpb := prod_bd (a := w.getD k 0) (b := x.getD k 0) (c := 1280000) (by omega) (by decide)
      have hz1 := szs_pos (w := w) (k := k)
      have hz2 := wok_le hwo1 (k := k + 1) (by omega)
      change szs w k + max (w.getD k 0) (-(w.getD k 0)) ≤ _ at hz2
      have hdb := dt_bd (w := w) hyes.2 (n := k) (by omega) (Nat.le_refl k)
      refine i_nil (rQ (r_cond_t rfl (r_skip (then_n (rQ (r_block (rS (kM rfl rfl (kO rfl (a_iaI (j := k) hW rfl rfl (by omega) (by first | rfl | omega) (by omega) (fun _ _ a5 => (kO rfl (a_ldr rfl (hW.at a5 (by omega)) (kM rfl rfl (kM rfl rfl (i_nil (rI (kM rfl rfl (kM rfl rfl (kM rfl rfl (kM rfl rfl (kO rfl (a_iaI (j := k) hX rfl rfl (by omega) (by first | rfl | omega) (by omega) (fun _ _ a6 => (kO rfl (a_ldr rfl (hX.at a6 (by omega)) (kO rfl (a_mul rfl rfl (by omega) (kO rfl (a_add rfl rfl (by omega) (kM rfl rfl ?_)))))))))))))))))))))))))))))))
      refine i_nil (block_n (then_n (rI (kO rfl (a_add rfl rfl (by omega) (kM rfl rfl (i_nil (then_n ?_))))))))
      exact ⟨rfl, _, _, _, (show w.length - (k + 1) < w.length - k by omega), (lc 0 rfl (lc 1 rfl (lc 6 rfl (lc 27 rfl (lc 28 rfl (lc 29 rfl Less.nil)))))), .slnil, ⟨k + 1, rfl, rfl, rfl, by omega⟩⟩
     ·refine i_nil (rQ (r_cond_f rfl (r_exit (then_e (then_e (block_hit (then_n (rS (kM rfl rfl (kM rfl rfl (kM rfl rfl (i_nil (r_ret ?_)))))))))))))
      have hkw : k = w.length := by omega
      subst hkw
      exact end2 rfl rfl ⟨v_0 ⟨by omega, hwo1⟩ hyes, rfl⟩
    ·have hno2 : ¬ VP2 w x := fun q => by rw [q.2] at h3; cases h3
     refine kG rfl rfl (a_not rfl (kO rfl (a_pick_f rfl rfl rfl (i_nil (r_cond_t rfl (rS (kM rfl rfl (kM rfl rfl (i_nil (r_ret (then_r ?_)))))))))))
     exact end2 rfl rfl ⟨v_25 ⟨by omega, hwo1⟩ hno2, rfl⟩
  ·have hno : ¬ VP1 w := fun q => hwo q.2
   refine kG rfl rfl (a_not rfl (kO rfl (a_pick_f rfl rfl rfl (i_nil (r_cond_t rfl (rS (kM rfl rfl (kM rfl rfl (i_nil (r_ret (then_r ?_)))))))))))
   exact end2 rfl rfl ⟨v_27 hno, rfl⟩

theorem rValue_s (n : Nat) (aw : Option Addr) (cw : Nat) (w : List Int) (ax : Option Addr) (cx : Nat) (x : List Int) (s : St) (hs : Wf s) (hn : 562949953421312 ≤ n) (hW : IntsE s aw w) (hX : IntsE s ax x) : Spec Tryz.prog (tabK tabw) X (n + 800) 10 [.slice aw w.length cw, .slice ax x.length cx] s (fun v A => v = .tuple #[.int .i64 (vv w x), .int .i64 (vc w x)] ∧ A = []) := by
 refine enter bw10_at rfl hs ?_
 unfold bw10
 have hlen := hW.len
 have hlenX := hX.len
 refine rS (kM rfl rfl (kM rfl rfl (i_nil (rQ (rS (kM rfl rfl (kO rfl (a_lenx rfl hW.spot (kO rfl (a_gtr rfl rfl (fun h1 => ?_) (fun h1 => ?_)))))))))))
 ·have hno : ¬ VP1 w := fun q => by have := q.1; omega
  refine kM rfl rfl (i_no rfl rfl (i_no rfl rfl (i_no rfl rfl (kO rfl (a_pick_t rfl rfl rfl (i_nil (r_cond_t rfl (rS (kM rfl rfl (kM rfl rfl (i_nil (r_ret (then_r ?_)))))))))))))
  exact end2 rfl rfl ⟨v_27 hno, rfl⟩
 ·refine kM rfl rfl (kG rfl rfl (a_mov rfl (kG rfl rfl (a_call rfl rfl (fun s1 h1 => sized_s _ _ _ _ s1 h1.wf (by omega) (hW.ext hs h1.2.1)) (fun v1 A1 q1 => ?_)))))
  obtain ⟨q1, rfl⟩ := q1
  rcases q1 with ⟨hwo, rfl⟩ | ⟨hwo, rfl⟩
  ·have hwo1 := hwo
   refine kG rfl rfl (a_not rfl (kO rfl (a_pick_f rfl rfl rfl (i_nil (r_cond_f rfl (r_skip (then_n (rQ (rS (kM rfl rfl (kO rfl (a_lenx rfl hX.spot (kM rfl rfl (kO rfl (a_lenx rfl hW.spot (kO rfl (a_neq rfl rfl (fun h2 => ?_) (fun h2 => ?_))))))))))))))))))
   ·have hno2 : ¬ VP2 w x := fun q => by have := q.1; omega
    refine i_nil (r_cond_t rfl (rS (kM rfl rfl (kM rfl rfl (i_nil (r_ret (then_r ?_)))))))
    exact end2 rfl rfl ⟨v_25 ⟨by omega, hwo1⟩ hno2, rfl⟩
   ·refine i_nil (r_cond_f rfl (r_skip (then_n (rS (kM rfl rfl (i_nil (rQ (rS (kM rfl rfl (kO rfl (a_lenx rfl hX.spot (kM rfl rfl (i_nil (r_block (r_loop (fun j e A => ∃ (k : Nat), e = [(0, .slice aw w.length cw), (1, .slice ax x.length cx), (6, .int .i64 (dt w x k)), (22, .slice ax x.length cx), (23, .int .i64 (x.length : Int)), (24, .int .i64 (k : Int))] ∧ A = [] ∧ j = w.length - k ∧ k ≤ w.length ∧ ∀ u, u < k → -1280000 ≤ x.getD u 0 ∧ x.getD u 0 ≤ 1280000) 200 0 281474976710656 ?_ (j := _) (env2 := _) (A2 := _) ?_ ?_ ?_ ?_ ⟨0, rfl, rfl, rfl, Nat.zero_le _, (fun u hu => absurd hu (Nat.not_lt_zero u))⟩)))))))))))))))
    rotate_left
    ·omega
    ·omega
    ·exact (lc 0 rfl (lc 1 rfl (lc 6 rfl (lc 22 rfl (lc 23 rfl (lc 24 rfl Less.nil))))))
    ·exact .slnil
    rintro n hn j _ _ ⟨k, rfl, rfl, rfl, hk, hup⟩
    refine rS (kO rfl (a_lss rfl rfl (fun h3 => ?_) (fun h3 => ?_)))
    ·refine i_nil (rQ (r_cond_t rfl (r_skip (then_n (rQ (r_block (rS (kM rfl rfl (kO rfl (a_iaI (j := k) hX rfl rfl (by omega) (by first | rfl | omega) (by omega) (fun _ _ a4 => (kO rfl (a_ldr rfl (hX.at a4 (by omega)) (kM rfl rfl (kM rfl rfl (i_nil (rQ (rS (kM rfl rfl (kO rfl (a_callB rfl rfl (fun s1 h1 => rwithin_s _ _ _ _ s1 h1.wf) (fun h5 => ?_) (fun h5 => ?_))))))))))))))))))))))
     ·have hpb := prod_bd (a := w.getD k 0) (b := x.getD k 0) (c := 1280000) (by omega) (by decide)
      have hz1 := szs_pos (w := w) (k := k)
      have hz2 := wok_le hwo1 (k := k + 1) (by omega)
      change szs w k + max (w.getD k 0) (-(w.getD k 0)) ≤ _ at hz2
      have hdb := dt_bd2 (w := w) hup (Nat.le_refl k)
      refine kO rfl (a_not rfl (i_nil (r_cond_f rfl (r_skip (then_n (rI (kM rfl rfl (kM rfl rfl (kM rfl rfl (kO rfl (a_iaI (j := k) hW rfl rfl (by omega) (by first | rfl | omega) (by omega) (fun _ _ a6 => (kO rfl (a_ldr rfl (hW.at a6 (by omega)) (kM rfl rfl (kO rfl (a_mul rfl rfl (by omega) (kO rfl (a_add rfl rfl (by omega) (kM rfl rfl (i_nil (block_n (then_n (rI (kO rfl (a_add rfl rfl (by omega) (kM rfl rfl (i_nil (then_n ?_)))))))))))))))))))))))))))))
      exact ⟨rfl, _, _, _, (show w.length - (k + 1) < w.length - k by omega), (lc 0 rfl (lc 1 rfl (lc 6 rfl (lc 22 rfl (lc 23 rfl (lc 24 rfl Less.nil)))))), .slnil, ⟨k + 1, rfl, rfl, rfl, by omega, (up_step hup (by omega))⟩⟩
     ·have hno2 : ¬ VP2 w x := fun q => in_not (k := k) (by omega) h5 q.2
      refine kO rfl (a_not rfl (i_nil (r_cond_t rfl (rS (kM rfl rfl (kM rfl rfl (i_nil (r_ret (then_r (block_r (then_r (then_r (block_r (then_r ?_))))))))))))))
      exact end2 rfl rfl ⟨v_25 ⟨by omega, hwo1⟩ hno2, rfl⟩
    ·have hyes : VP2 w x := ⟨by omega, in_upto hup (by omega)⟩
     refine i_nil (rQ (r_cond_f rfl (r_exit (then_e (then_e (block_hit (then_n (rS (kM rfl rfl (kM rfl rfl (kM rfl rfl (i_nil (r_ret ?_)))))))))))))
     have hkw : k = w.length := by omega
     subst hkw
     exact end2 rfl rfl ⟨v_0 ⟨by omega, hwo1⟩ hyes, rfl⟩
  ·have hno : ¬ VP1 w := fun q => hwo q.2
   refine kG rfl rfl (a_not rfl (kO rfl (a_pick_f rfl rfl rfl (i_nil (r_cond_t rfl (rS (kM rfl rfl (kM rfl rfl (i_nil (r_ret (then_r ?_)))))))))))
   exact end2 rfl rfl ⟨v_27 hno, rfl⟩

theorem Same_s (n : Nat) (a1 : Option Addr) (c1 : Nat) (a2 : Option Addr) (c2 : Nat) (l : List Int) (s : St) (hs : Wf s) (hn : 281474976710656 ≤ n) (hE1 : IntsE s a1 l) (hE2 : IntsE s a2 l) : Spec Tryz.prog (tabK tabw) X (n + 300) 12 [.slice a1 l.length c1, .slice a2 l.length c2] s (fun v A => v = .bool true ∧ A = []) := by
 refine enter bw12_at rfl hs ?_
 unfold bw12
 have hlen := hE1.len
 refine rS (kM rfl rfl (i_nil (rQ (rS (kM rfl rfl (kO rfl (a_lenx rfl hE1.spot (kM rfl rfl (kO rfl (a_lenx rfl hE2.spot (kO rfl (a_neq rfl rfl (fun h1 => ?_) (fun h1 => ?_)))))))))))))
 ·exact absurd rfl h1
 ·refine i_nil (r_cond_f rfl (r_skip (then_n (rQ (rS (kM rfl rfl (kO rfl (a_lenx rfl hE1.spot (kM rfl rfl (i_nil (r_block (r_loop (fun j e A => ∃ (k : Nat), e = [(0, .slice a1 l.length c1), (1, .slice a2 l.length c2), (12, .int .i64 (l.length : Int)), (13, .int .i64 (k : Int))] ∧ A = [] ∧ j = l.length - k ∧ k ≤ l.length) 100 0 281474976710656 ?_ (j := _) (env2 := _) (A2 := _) ?_ ?_ ?_ ?_ ⟨0, rfl, rfl, rfl, Nat.zero_le _⟩))))))))))))
  rotate_left
  ·omega
  ·omega
  ·exact (lc 0 rfl (lc 1 rfl (lc 12 rfl (lc 13 rfl Less.nil))))
  ·exact .slnil
  rintro n hn j _ _ ⟨k, rfl, rfl, rfl, hk⟩
  refine rS (kO rfl (a_lss rfl rfl (fun h2 => ?_) (fun h2 => ?_)))
  ·refine i_nil (rQ (r_cond_t rfl (r_skip (then_n (rQ (r_block (rS (kM rfl rfl (kM rfl rfl (i_nil (rS (kM rfl rfl (kM rfl rfl (kO rfl (a_iaI (j := k) hE1 rfl rfl (by omega) (by first | rfl | omega) (by omega) (fun _ _ a3 => (kO rfl (a_ldr rfl (hE1.at a3 (by omega)) (kM rfl rfl (kM rfl rfl (kO rfl (a_iaI (j := k) hE2 rfl rfl (by omega) (by first | rfl | omega) (by omega) (fun _ _ a4 => (kO rfl (a_ldr rfl (hE2.at a4 (by omega)) (kO rfl (a_neq rfl rfl (fun h5 => ?_) (fun h5 => ?_))))))))))))))))))))))))))))
   ·exact absurd rfl h5
   ·refine i_nil (r_cond_f rfl (r_skip (block_n (then_n (rI (kO rfl (a_add rfl rfl (by omega) (kM rfl rfl (i_nil (then_n ?_))))))))))
    exact ⟨rfl, _, _, _, (show l.length - (k + 1) < l.length - k by omega), (lc 0 rfl (lc 1 rfl (lc 12 rfl (lc 13 rfl Less.nil)))), .slnil, ⟨k + 1, rfl, rfl, rfl, by omega⟩⟩
  ·refine i_nil (rQ (r_cond_f rfl (r_exit (then_e (then_e (block_hit (then_n (rS (kM rfl rfl (i_nil (r_ret ?_)))))))))))
   exact end1 rfl ⟨rfl, rfl⟩

end
end Ev
end Go.Proofs.YtcpebhdbpkhhiaaGreat

/- The law BoundCloses, by the evaluator. -/
namespace Go.Proofs.YtcpebhdbpkhhiaaGreat
open Go Go.RowKit
namespace Ev
theorem rowT_fit {T : Nat → Nat → Int} {N i : Nat} (h : ∀ a b, a < N → b < N → -1000000000 ≤ T a b ∧ T a b ≤ 1000000000) (hi : i < N) : ∀ z ∈ rowT T N i, -9223372036854775808 ≤ z ∧ z < 9223372036854775808 := fun z hz => by
  obtain ⟨k, hk, rfl⟩ := List.mem_map.1 hz
  have := h i k hi (List.mem_range.1 hk)
  omega
theorem Sm.fit {D : Nat → Nat → Int} {N : Nat} (h : Sm D N) : ∀ a b, a < N → b < N → -1000000000 ≤ D a b ∧ D a b ≤ 1000000000 := fun a b ha hb => by
  have h1 := h.lo a b ha hb
  have h2 := h.hi a b ha hb
  omega

section
variable {X : FuncId → List Value → St → (Value → St → Bool) → Bool}
theorem Same_n (n : Nat) (a1 : Option Addr) (c1 n1 : Nat) (a2 : Option Addr) (c2 n2 : Nat) (l1 l2 : List Int) (s : St) (hs : Wf s) (hn : 281474976710656 ≤ n) (hn1 : n1 = l1.length) (hn2 : n2 = l2.length) (he : l1 = l2) (hE1 : IntsE s a1 l1) (hE2 : IntsE s a2 l2) : Spec Tryz.prog (tabK tabw) X (n + 300) 12 [.slice a1 n1 c1, .slice a2 n2 c2] s (fun v A => v = .bool true ∧ A = []) := by
  subst hn1; subst hn2; subst he
  exact Same_s n a1 c1 a2 c2 l1 s hs hn hE1 hE2 (X := X)

set_option maxRecDepth 100000 in
theorem BoundCloses_s (n : Nat) (m : Int) (al : Option Addr) (cl : Nat) (ls : List (List Int)) (ap : Option Addr) (cpk : Nat) (ps : List Int) (ax : Option Addr) (cx : Nat) (x : List Int) (s : St) (hs : Wf s) (hn : 5629499534213120 ≤ n) (hL : RowsE s 4 al ls) (hP : IntsE s ap ps) (hX : IntsE s ax x) : Spec Tryz.prog (tabK tabw) (knownX 17) (n + 9500) 3 [.agg ⟨[.int .i64 m, .slice al ls.length cl]⟩, .slice ap ps.length cpk, .slice ax x.length cx] s (fun v A => v = .bool true ∧ A = []) := by
 refine enter bw3_at rfl hs ?_
 unfold bw3
 have hlen := hL.len
 have hlenP := hP.len
 have hlenX := hX.len
 refine rS (kO rfl (a_box rfl rfl rfl (fun b1 => (kM rfl rfl (i_nil (rS (kO rfl (a_lda rfl (by decide) .here rfl (kO rfl (a_call rfl rfl (fun s1 h1 => Close_s _ _ al cl ls s1 h1.wf (by omega) (hL.ext hs h1.2.1)) (fun v1 A1 q1 => ?_)))))))))))
 rcases q1 with ⟨hc, rfl, rfl⟩ | ⟨hc, hc2, rfl, rfl⟩ | ⟨hc, hc2, q1⟩
 ·have hp0 := hc
  refine kM rfl rfl (kO rfl (a_ext rfl rfl (kO rfl (a_ext rfl rfl (kM rfl rfl (kM rfl rfl (i_nil (rS (kO rfl (a_lda rfl (by decide) .here rfl (kO rfl (a_call rfl rfl (fun s1 h1 => rClose_s _ _ al cl ls s1 h1.wf (by omega) (hL.ext hs h1.2.1)) (fun v1 A1 q1 => ?_)))))))))))))
  rcases q1 with ⟨hc, rfl, rfl⟩ | ⟨hc, hc2, rfl, rfl⟩ | ⟨hc, hc2, q1⟩
  ·refine kM rfl rfl (kO rfl (a_ext rfl rfl (kO rfl (a_ext rfl rfl (kM rfl rfl (kM rfl rfl (i_nil (rS (kO rfl (a_lda rfl (by decide) .here rfl (kM rfl rfl (kO rfl (a_call rfl rfl (fun s1 h1 => Point_s _ _ al cl ls ap cpk ps s1 h1.wf (by omega) (hL.ext hs h1.2.1) (hP.ext hs h1.2.1)) (fun v1 A1 q1 => ?_))))))))))))))
   rcases q1 with ⟨hp, rfl, rfl⟩ | ⟨hp, hpu2, rfl, rfl⟩ | ⟨hp, hpu2, q1⟩
   ·refine kM rfl rfl (kO rfl (a_ext rfl rfl (kO rfl (a_ext rfl rfl (kM rfl rfl (kM rfl rfl (i_nil (rS (kO rfl (a_lda rfl (by decide) .here rfl (kM rfl rfl (kO rfl (a_call rfl rfl (fun s1 h1 => rPoint_s _ _ al cl ls ap cpk ps s1 h1.wf (by omega) (hL.ext hs h1.2.1) (hP.ext hs h1.2.1)) (fun v1 A1 q1 => ?_))))))))))))))
    rcases q1 with ⟨hp, rfl, rfl⟩ | ⟨hp, hpu2, rfl, rfl⟩ | ⟨hp, hpu2, q1⟩
    ·refine kM rfl rfl (kO rfl (a_ext rfl rfl (kO rfl (a_ext rfl rfl (kM rfl rfl (kM rfl rfl (i_nil (rS (kM rfl rfl (kM rfl rfl (kO rfl (a_callV rfl rfl (fun s1 h1 => Value_s _ ap cpk ps ax cx x s1 h1.wf (by omega) (hP.ext hs h1.2.1) (hX.ext hs h1.2.1)) (kM rfl rfl (kO rfl (a_ext rfl rfl (kO rfl (a_ext rfl rfl (kM rfl rfl (kM rfl rfl (i_nil (rS (kM rfl rfl (kM rfl rfl (kO rfl (a_callV rfl rfl (fun s1 h1 => rValue_s _ ap cpk ps ax cx x s1 h1.wf (by omega) (hP.ext hs h1.2.1) (hX.ext hs h1.2.1)) (kM rfl rfl (kO rfl (a_ext rfl rfl (kO rfl (a_ext rfl rfl (kM rfl rfl ?_)))))))))))))))))))))))))))))))
     refine kM rfl rfl (i_nil (rQ (rS (kM rfl rfl (kM rfl rfl (kO rfl (a_neq rfl rfl (fun h5 => ?_) (fun h5 => ?_))))))))
     ·exact absurd rfl h5
     ·refine kM rfl rfl (kG rfl rfl (a_mov rfl (kG rfl rfl (a_mov rfl (kG rfl rfl (a_inl rfl rfl bw11_at rfl ?_))))))
      unfold bw11
      refine rS (kM rfl rfl (i_nil (rQ (rS (kM rfl rfl (kO rfl (a_len0 rfl (kM rfl rfl (kO rfl (a_len0 rfl (kO rfl (a_neq rfl rfl (fun h => absurd h (by decide)) (fun _ => (i_nil (r_cond_f rfl (r_skip (then_n (rQ (rS (kM rfl rfl (kO rfl (a_len0 rfl (kM rfl rfl (i_nil (r_block (r_unroll (rS (kO rfl (a_lss rfl rfl (fun h => absurd h (by decide)) (fun _ => ?_))))))))))))))))))))))))))))))
      refine i_nil (rQ (r_cond_f rfl (r_exit (then_e (then_e (block_hit (then_n (rS (kM rfl rfl (i_nil (r_ret (endD1 rfl .nil (kG rfl rfl (a_not rfl (kO rfl (a_pick_f rfl rfl rfl (kM rfl rfl (kG rfl rfl (a_mov rfl (kG rfl rfl (a_mov rfl (kG rfl rfl (a_neq rfl rfl (fun h8 => ?_) (fun h8 => ?_))))))))))))))))))))))))
      ·exact absurd rfl h8
      ·refine kO rfl (a_pick_f rfl rfl rfl (kM rfl rfl (kG rfl rfl (a_mov rfl (kG rfl rfl (a_mov rfl (kG rfl rfl (a_callV rfl rfl (fun s1 h1 => Same_n _ none 0 0 none 0 0 [] [] s1 h1.wf (by omega) rfl rfl rfl .nil .nil) (kG rfl rfl (a_not rfl (kO rfl (a_pick_f rfl rfl rfl (kM rfl rfl (kG rfl rfl (a_mov rfl (kG rfl rfl (a_mov rfl (kG rfl rfl (a_neq rfl rfl (fun h9 => ?_) (fun h9 => ?_))))))))))))))))))))
       ·exact absurd rfl h9
       ·refine kO rfl (a_pick_f rfl rfl rfl (kM rfl rfl (kG rfl rfl (a_mov rfl (kG rfl rfl (a_mov rfl (kG rfl rfl (a_neq rfl rfl (fun h10 => ?_) (fun h10 => ?_)))))))))
        ·exact absurd rfl h10
        ·refine kO rfl (a_pick_f rfl rfl rfl (i_nil (r_cond_f rfl (r_skip (then_n (rS (kO rfl (a_lda rfl (by decide) .here rfl (kM rfl rfl (kO rfl (a_lda rfl (by decide) .here rfl (kM rfl rfl (kO rfl (a_callV rfl rfl (fun s1 h1 => CheckCycle_e _ _ al cl ls ap cpk ps s1 h1.wf (by omega) (hL.ext hs h1.2.1) (hP.ext hs h1.2.1) hp0) (kZ rfl (a_againa rfl rfl (by decide) .here rfl (by simp [eqL, eqV, eqA, kindEq, intEq_eq, eqV_sl hL.spot, eqV_sl hP.spot, eqV_sl hX.spot]) (kO rfl (a_callV rfl rfl (fun s1 h1 => rCheckCycle_e _ _ al cl ls ap cpk ps s1 h1.wf (by omega) (hL.ext hs h1.2.1) (hP.ext hs h1.2.1) hp0) (kO rfl (a_eql rfl rfl (fun h11 => ?_) (fun h11 => ?_)))))))))))))))))))))
         ·refine kM rfl rfl (kG rfl rfl (a_lda rfl (by decide) .here rfl (kG rfl rfl (a_mov rfl (kG rfl rfl (a_lda rfl (by decide) .here rfl (kG rfl rfl (a_mov rfl (kG rfl rfl (a_callV rfl rfl (fun s1 h1 => CheckPoint_s _ _ al cl ls ax cx x s1 h1.wf (by omega) (hL.ext hs h1.2.1) (hX.ext hs h1.2.1)) (kZ rfl (a_againa rfl rfl (by decide) .here rfl (by simp [eqL, eqV, eqA, kindEq, intEq_eq, eqV_sl hL.spot, eqV_sl hP.spot, eqV_sl hX.spot]) (kG rfl rfl (a_callV rfl rfl (fun s1 h1 => rCheckPoint_s _ _ al cl ls ax cx x s1 h1.wf (by omega) (hL.ext hs h1.2.1) (hX.ext hs h1.2.1)) (kG rfl rfl (a_eql rfl rfl (fun h12 => ?_) (fun h12 => ?_)))))))))))))))))
          ·refine kO rfl (a_pick_t rfl rfl rfl (kM rfl rfl (kG rfl rfl (a_callV rfl rfl (fun s1 h1 => known_s _ s1 h1.wf) (kO rfl (a_pick_t rfl rfl rfl (kM rfl rfl (i_nil (r_ret ?_)))))))))
           exact end1 rfl ⟨rfl, rfl⟩
          ·exact absurd rfl h12
         ·exact absurd rfl h11
    ·exact absurd hp hp0
    ·exact absurd hp hp0
   ·exact absurd hp hp0
   ·exact absurd hp hp0
  ·exact absurd hc hp0
  ·exact absurd hc hp0
 ·have hsys := hc
  obtain ⟨hm0, hM, h400, hlm⟩ := sysE_ok hsys
  obtain ⟨M, rfl⟩ : ∃ q : Nat, m = (q : Int) := ⟨m.toNat, by omega⟩
  have hM : M ≤ 64 := by omega
  have h400 : ls.length ≤ 400 := by omega
  change Uns ls (M + 1) at hc2
  have hpu := hc2
  refine kM rfl rfl (kO rfl (a_ext rfl rfl (kO rfl (a_ext rfl rfl (kM rfl rfl (kM rfl rfl (i_nil (rS (kO rfl (a_lda rfl (by decide) .here rfl (kO rfl (a_call rfl rfl (fun s1 h1 => rClose_s _ _ al cl ls s1 h1.wf (by omega) (hL.ext hs h1.2.1)) (fun v1 A1 q1 => ?_)))))))))))))
  rcases q1 with ⟨hc, rfl, rfl⟩ | ⟨hc, hc2, rfl, rfl⟩ | ⟨hc, hc2, q1⟩
  ·exact absurd hsys hc
  ·have hcq := hc2
   refine kM rfl rfl (kO rfl (a_ext rfl rfl (kO rfl (a_ext rfl rfl (kM rfl rfl (kM rfl rfl (i_nil (rS (kO rfl (a_lda rfl (by decide) .here rfl (kM rfl rfl (kO rfl (a_call rfl rfl (fun s1 h1 => Point_s _ _ al cl ls ap cpk ps s1 h1.wf (by omega) (hL.ext hs h1.2.1) (hP.ext hs h1.2.1)) (fun v1 A1 q1 => ?_))))))))))))))
   rcases q1 with ⟨hp, rfl, rfl⟩ | ⟨hp, hpu2, rfl, rfl⟩ | ⟨hp, hpu2, q1⟩
   ·exact absurd hsys hp
   ·have hpq := hpu
    refine kM rfl rfl (kO rfl (a_ext rfl rfl (kO rfl (a_ext rfl rfl (kM rfl rfl (kM rfl rfl (i_nil (rS (kO rfl (a_lda rfl (by decide) .here rfl (kM rfl rfl (kO rfl (a_call rfl rfl (fun s1 h1 => rPoint_s _ _ al cl ls ap cpk ps s1 h1.wf (by omega) (hL.ext hs h1.2.1) (hP.ext hs h1.2.1)) (fun v1 A1 q1 => ?_))))))))))))))
    rcases q1 with ⟨hp, rfl, rfl⟩ | ⟨hp, hpu2, rfl, rfl⟩ | ⟨hp, hpu2, q1⟩
    ·exact absurd hsys hp
    ·have hpr := hpu
     refine kM rfl rfl (kO rfl (a_ext rfl rfl (kO rfl (a_ext rfl rfl (kM rfl rfl (kM rfl rfl (i_nil (rS (kM rfl rfl (kM rfl rfl (kO rfl (a_callV rfl rfl (fun s1 h1 => Value_s _ ap cpk ps ax cx x s1 h1.wf (by omega) (hP.ext hs h1.2.1) (hX.ext hs h1.2.1)) (kM rfl rfl (kO rfl (a_ext rfl rfl (kO rfl (a_ext rfl rfl (kM rfl rfl (kM rfl rfl (i_nil (rS (kM rfl rfl (kM rfl rfl (kO rfl (a_callV rfl rfl (fun s1 h1 => rValue_s _ ap cpk ps ax cx x s1 h1.wf (by omega) (hP.ext hs h1.2.1) (hX.ext hs h1.2.1)) (kM rfl rfl (kO rfl (a_ext rfl rfl (kO rfl (a_ext rfl rfl (kM rfl rfl ?_)))))))))))))))))))))))))))))))
     refine kM rfl rfl (i_nil (rQ (rS (kM rfl rfl (kM rfl rfl (kO rfl (a_neq rfl rfl (fun h => absurd h (by decide)) (fun _ => (kM rfl rfl (kG rfl rfl (a_mov rfl (kG rfl rfl (a_mov rfl (kG rfl rfl (a_inl rfl rfl bw11_at rfl ?_)))))))))))))))
     unfold bw11
     refine rS (kM rfl rfl (i_nil (rQ (rS (kM rfl rfl (kO rfl (a_len0 rfl (kM rfl rfl (kO rfl (a_len0 rfl (kO rfl (a_neq rfl rfl (fun h => absurd h (by decide)) (fun _ => (i_nil (r_cond_f rfl (r_skip (then_n (rQ (rS (kM rfl rfl (kO rfl (a_len0 rfl (kM rfl rfl (i_nil (r_block (r_unroll (rS (kO rfl (a_lss rfl rfl (fun h => absurd h (by decide)) (fun _ => ?_))))))))))))))))))))))))))))))
     refine i_nil (rQ (r_cond_f rfl (r_exit (then_e (then_e (block_hit (then_n (rS (kM rfl rfl (i_nil (r_ret (endD1 rfl .nil (kG rfl rfl (a_not rfl (kO rfl (a_pick_f rfl rfl rfl (kM rfl rfl (kG rfl rfl (a_mov rfl (kG rfl rfl (a_mov rfl (kG rfl rfl (a_neq rfl rfl (fun h => absurd h (by decide)) (fun _ => (kO rfl (a_pick_f rfl rfl rfl (kM rfl rfl (kG rfl rfl (a_mov rfl (kG rfl rfl (a_mov rfl (kG rfl rfl (a_callV rfl rfl (fun s1 h1 => Same_n _ none 0 0 none 0 0 [] [] s1 h1.wf (by omega) rfl rfl rfl .nil .nil) ?_)))))))))))))))))))))))))))))))))
     refine kG rfl rfl (a_not rfl (kO rfl (a_pick_f rfl rfl rfl (kM rfl rfl (kG rfl rfl (a_mov rfl (kG rfl rfl (a_mov rfl (kG rfl rfl (a_neq rfl rfl (fun h17 => ?_) (fun h17 => ?_)))))))))))
     ·exact absurd rfl h17
     ·refine kO rfl (a_pick_f rfl rfl rfl (kM rfl rfl (kG rfl rfl (a_mov rfl (kG rfl rfl (a_mov rfl (kG rfl rfl (a_neq rfl rfl (fun h18 => ?_) (fun h18 => ?_)))))))))
      ·exact absurd rfl h18
      ·refine kO rfl (a_pick_f rfl rfl rfl (i_nil (r_cond_f rfl (r_skip (then_n (rS (kO rfl (a_lda rfl (by decide) .here rfl (kM rfl rfl (kO rfl (a_lda rfl (by decide) .here rfl (kM rfl rfl (kO rfl (a_callV rfl rfl (fun s1 h1 => CheckCycle_v _ M al cl ls ap cpk ps s1 h1.wf (by omega) (hL.ext hs h1.2.1) (hP.ext hs h1.2.1) hsys) (kZ rfl (a_againa rfl rfl (by decide) .here rfl (by simp [eqL, eqV, eqA, kindEq, intEq_eq, eqV_sl hL.spot, eqV_sl hP.spot, eqV_sl hX.spot]) (kO rfl (a_callV rfl rfl (fun s1 h1 => rCheckCycle_v _ M al cl ls ap cpk ps s1 h1.wf (by omega) (hL.ext hs h1.2.1) (hP.ext hs h1.2.1) hsys) (kO rfl (a_eql rfl rfl (fun h19 => ?_) (fun h19 => ?_)))))))))))))))))))))
       ·refine kM rfl rfl (kG rfl rfl (a_lda rfl (by decide) .here rfl (kG rfl rfl (a_mov rfl (kG rfl rfl (a_lda rfl (by decide) .here rfl (kG rfl rfl (a_mov rfl (kG rfl rfl (a_callV rfl rfl (fun s1 h1 => CheckPoint_s _ _ al cl ls ax cx x s1 h1.wf (by omega) (hL.ext hs h1.2.1) (hX.ext hs h1.2.1)) (kZ rfl (a_againa rfl rfl (by decide) .here rfl (by simp [eqL, eqV, eqA, kindEq, intEq_eq, eqV_sl hL.spot, eqV_sl hP.spot, eqV_sl hX.spot]) (kG rfl rfl (a_callV rfl rfl (fun s1 h1 => rCheckPoint_s _ _ al cl ls ax cx x s1 h1.wf (by omega) (hL.ext hs h1.2.1) (hX.ext hs h1.2.1)) (kG rfl rfl (a_eql rfl rfl (fun h20 => ?_) (fun h20 => ?_)))))))))))))))))
        ·refine kO rfl (a_pick_t rfl rfl rfl (kM rfl rfl (kG rfl rfl (a_callV rfl rfl (fun s1 h1 => known_s _ s1 h1.wf) (kO rfl (a_pick_t rfl rfl rfl (kM rfl rfl (i_nil (r_ret ?_)))))))))
         exact end1 rfl ⟨rfl, rfl⟩
        ·exact absurd rfl h20
       ·exact absurd rfl h19
    ·exact absurd hpu hpu2
   ·exact absurd hpu hpu2
  ·exact absurd hpu hc2
 ·obtain ⟨bt2, Bt3, Dt4, rfl, rfl, hDT⟩ := q1
  have hsys := hc
  obtain ⟨hm0, hM, h400, hlm⟩ := sysE_ok hsys
  obtain ⟨M, rfl⟩ : ∃ q : Nat, m = (q : Int) := ⟨m.toNat, by omega⟩
  have hM : M ≤ 64 := by omega
  have h400 : ls.length ≤ 400 := by omega
  have hpn : ¬ Uns ls (M + 1) := hc2
  change DT ls (M + 1) Dt4 at hDT
  obtain ⟨y, hy, hyb⟩ := set_pt hlm h400 hM hpn
  have hS := hDT.sm hy hyb
  have hDW := dt_wm hlm hM hy hyb
  have hSW := hDW.sm hy hyb
  rw [List.append_assoc, List.singleton_append]
  rw [show ((M : Int).toNat) = M from rfl]
  refine kM rfl rfl (kO rfl (a_ext rfl rfl (kO rfl (a_ext rfl rfl (kM rfl rfl (kM rfl rfl (i_nil (rS (kO rfl (a_lda rfl (by decide) (.app (.next .here)) rfl (kO rfl (a_call rfl rfl (fun s1 h1 => rClose_s _ _ al cl ls s1 h1.wf (by omega) (hL.ext hs h1.2.1)) (fun v1 A1 q1 => ?_)))))))))))))
  rcases q1 with ⟨hc, rfl, rfl⟩ | ⟨hc, hc2, rfl, rfl⟩ | ⟨hc, hc2, q1⟩
  ·exact absurd hsys hc
  ·exact absurd hc2 hpn
  ·obtain ⟨bt21, Bt22, rfl, rfl⟩ := q1
   rw [List.append_assoc, List.singleton_append]
   rw [show ((M : Int).toNat) = M from rfl]
   refine kM rfl rfl (kO rfl (a_ext rfl rfl (kO rfl (a_ext rfl rfl (kM rfl rfl (kM rfl rfl (i_nil (rS (kO rfl (a_lda rfl (by decide) (.app (.next (.app (.next .here)))) rfl (kM rfl rfl (kO rfl (a_call rfl rfl (fun s1 h1 => Point_s _ _ al cl ls ap cpk ps s1 h1.wf (by omega) (hL.ext hs h1.2.1) (hP.ext hs h1.2.1)) (fun v1 A1 q1 => ?_))))))))))))))
   rcases q1 with ⟨hp, rfl, rfl⟩ | ⟨hp, hpu2, rfl, rfl⟩ | ⟨hp, hpu2, q1⟩
   ·exact absurd hsys hp
   ·exact absurd hpu2 hpn
   ·obtain ⟨bp23, op25, cpp, Dp24, rfl, rfl, hDP⟩ := q1
    change DT ls (M + 1) Dp24 at hDP
    rw [show ((M : Int).toNat) = M from rfl]
    have hpe : ptL Dp24 ps M = ptL (wm ls (M + 1) (M + 1)) ps M := ptL_congr (fun a b ha hb => (wm_dd hlm hM hDP hy hyb ha hb).symm) (Nat.lt_succ_self M)
    rw [hpe, List.singleton_append]
    refine kM rfl rfl (kO rfl (a_ext rfl rfl (kO rfl (a_ext rfl rfl (kM rfl rfl (kM rfl rfl (i_nil (rS (kO rfl (a_lda rfl (by decide) (.next (.app (.next (.app (.next .here))))) rfl (kM rfl rfl (kO rfl (a_call rfl rfl (fun s1 h1 => rPoint_s _ _ al cl ls ap cpk ps s1 h1.wf (by omega) (hL.ext hs h1.2.1) (hP.ext hs h1.2.1)) (fun v1 A1 q1 => ?_))))))))))))))
    rcases q1 with ⟨hp, rfl, rfl⟩ | ⟨hp, hpu2, rfl, rfl⟩ | ⟨hp, hpu2, q1⟩
    ·exact absurd hsys hp
    ·exact absurd hpu2 hpn
    ·obtain ⟨bq26, oq27, cpq, rfl, rfl⟩ := q1
     rw [show ((M : Int).toNat) = M from rfl, List.singleton_append]
     have hfit := nb_fit (ptL_ok (ps := ps) hDW hSW hM (Nat.le_refl M)).2.1 (by omega)
     have hln : (ptL (wm ls (M + 1) (M + 1)) ps M).length = M + 1 := ptL_len
     refine kM rfl rfl (kO rfl (a_ext rfl rfl (kO rfl (a_ext rfl rfl (kM rfl rfl (kM rfl rfl (i_nil (rS (kM rfl rfl (kM rfl rfl (kO rfl (a_callV rfl rfl (fun s1 h1 => Value_s _ ap cpk ps ax cx x s1 h1.wf (by omega) (hP.ext hs h1.2.1) (hX.ext hs h1.2.1)) (kM rfl rfl (kO rfl (a_ext rfl rfl (kO rfl (a_ext rfl rfl (kM rfl rfl (kM rfl rfl (i_nil (rS (kM rfl rfl (kM rfl rfl (kO rfl (a_callV rfl rfl (fun s1 h1 => rValue_s _ ap cpk ps ax cx x s1 h1.wf (by omega) (hP.ext hs h1.2.1) (hX.ext hs h1.2.1)) (kM rfl rfl (kO rfl (a_ext rfl rfl (kO rfl (a_ext rfl rfl (kM rfl rfl ?_)))))))))))))))))))))))))))))))
     refine kM rfl rfl (i_nil (rQ (rS (kM rfl rfl (kM rfl rfl (kO rfl (a_neq rfl rfl (fun h => absurd h (by decide)) (fun _ => (kM rfl rfl (kG rfl rfl (a_mov rfl (kG rfl rfl (a_mov rfl (kG rfl rfl (a_inl rfl rfl bw11_at rfl ?_)))))))))))))))
     unfold bw11
     refine rS (kM rfl rfl (i_nil (rQ (rS (kM rfl rfl (kO rfl (a_len rfl (kM rfl rfl (kO rfl (a_len rfl (kO rfl (a_neq rfl rfl (fun h29 => ?_) (fun h29 => ?_)))))))))))))
     ·exact absurd rfl h29
     ·refine i_nil (r_cond_f rfl (r_skip (then_n (rQ (rS (kM rfl rfl (kO rfl (a_len rfl (kM rfl rfl (i_nil (r_block ?_)))))))))))
      refine r_loop (fun j e A => ∃ (k : Nat), e = [(0, .slice (some ⟨bt2, 0, none⟩) (M + 1) (M + 1)), (1, .slice (some ⟨bt21, 0, none⟩) (M + 1) (M + 1)), (12, .int .i64 ((M + 1 : Nat) : Int)), (13, .int .i64 (k : Int))] ∧ A = (.row bq26 3 oq27 (ints (ptL (wm ls (M + 1) (M + 1)) ps M)) :: (.row bp23 3 op25 (ints (ptL (wm ls (M + 1) (M + 1)) ps M)) :: (seg Bt22 (M + 1) (wm ls (M + 1) (M + 1)) (M + 1) ++ (.row bt21 25 false (slsT Bt22 (M + 1) (M + 1) (M + 1)) :: (seg Bt3 (M + 1) Dt4 (M + 1) ++ (.row bt2 25 false (slsT Bt3 (M + 1) (M + 1) (M + 1)) :: (.row b1 24 false ([.int .i64 (M : Int), .slice al ls.length cl]) :: []))))))) ∧ j = M + 1 - k ∧ k ≤ M + 1) 600 562949953421312 281474976710656 ?_ (j := _) (env2 := _) (A2 := _) ?_ ?_ ?_ ?_ ⟨0, rfl, rfl, rfl, Nat.zero_le _⟩
      rotate_left
      ·omega
      ·omega
      ·exact (lc 0 rfl (lc 1 rfl (lc 12 rfl (lc 13 rfl Less.nil))))
      ·exact (.cons_cons _ (.cons_cons _ (List.Sublist.append (List.Sublist.refl _) (.cons_cons _ (List.Sublist.append (List.Sublist.refl _) (.cons_cons _ (.cons_cons _ .slnil)))))))
      rintro n hn j _ _ ⟨k, rfl, rfl, rfl, hk⟩
      refine rS (kO rfl (a_lss rfl rfl (fun h30 => ?_) (fun h30 => ?_)))
      ·refine i_nil (rQ (r_cond_t rfl (r_skip (then_n (rQ (r_block (rS (kM rfl rfl (kM rfl rfl (i_nil (rS (kM rfl rfl (kM rfl rfl (kO rfl (a_ia (j := k) rfl rfl (by omega) (by omega) (kO rfl (a_ld rfl (.next (.next (.app (.next (.app .here))))) (sls_get (by omega) (by omega)) (kM rfl rfl (kM rfl rfl (kO rfl (a_ia (j := k) rfl rfl (by omega) (by omega) (kO rfl (a_ld rfl (.next (.next (.app .here))) (sls_get (by omega) (by omega)) (kO rfl (a_callV rfl rfl (fun s1 h1 => Same_n _ _ _ _ _ _ _ (rowT Dt4 (M + 1) k) (rowT (wm ls (M + 1) (M + 1)) (M + 1) k) s1 h1.wf (by omega) rowT_len.symm rowT_len.symm (by unfold rowT; exact List.map_congr_left (fun j hj => (wm_dd hlm hM hDT hy hyb (by omega) (List.mem_range.1 hj)).symm)) (IntsE.own (h1.own (.next (.next (.app (.next (own_seg (by omega))))))) (rowT_fit hS.fit (by omega)) (by rw [rowT_len]; omega)) (IntsE.own (h1.own (.next (.next (own_seg (by omega))))) (rowT_fit hSW.fit (by omega)) (by rw [rowT_len]; omega))) (kO rfl (a_not rfl (i_nil (r_cond_f rfl ?_)))))))))))))))))))))))))))))
       refine r_skip (block_n (then_n (rI (kO rfl (a_add rfl rfl (by omega) (kM rfl rfl (i_nil (then_n ?_))))))))
       exact ⟨rfl, _, _, _, (show M + 1 - (k + 1) < M + 1 - k by omega), (lc 0 rfl (lc 1 rfl (lc 12 rfl (lc 13 rfl Less.nil)))), (.cons_cons _ (.cons_cons _ (List.Sublist.append (List.Sublist.refl _) (.cons_cons _ (List.Sublist.append (List.Sublist.refl _) (.cons_cons _ (.cons_cons _ .slnil))))))), ⟨k + 1, rfl, rfl, rfl, by omega⟩⟩
      ·refine i_nil (rQ (r_cond_f rfl (r_exit (then_e (then_e (block_hit (then_n (rS (kM rfl rfl (i_nil (r_ret (endD1 rfl .nil (kG rfl rfl (a_not rfl (kO rfl (a_pick_f rfl rfl rfl (kM rfl rfl (kG rfl rfl (a_mov rfl (kG rfl rfl (a_mov rfl (kG rfl rfl (a_neq rfl rfl (fun h => absurd h (by decide)) (fun _ => (kO rfl (a_pick_f rfl rfl rfl (kM rfl rfl (kG rfl rfl (a_mov rfl (kG rfl rfl (a_mov rfl (kG rfl rfl (a_callV rfl rfl (fun s1 h1 => Same_n _ _ _ _ _ _ _ (ptL (wm ls (M + 1) (M + 1)) ps M) _ s1 h1.wf (by omega) hln.symm hln.symm rfl (IntsE.own (h1.own (.next .here)) hfit (by omega)) (IntsE.own (h1.own .here) hfit (by omega))) ?_)))))))))))))))))))))))))))))))))
       refine kG rfl rfl (a_not rfl (kO rfl (a_pick_f rfl rfl rfl (kM rfl rfl (kG rfl rfl (a_mov rfl (kG rfl rfl (a_mov rfl (kG rfl rfl (a_neq rfl rfl (fun h32 => ?_) (fun h32 => ?_)))))))))))
       ·exact absurd rfl h32
       ·refine kO rfl (a_pick_f rfl rfl rfl (kM rfl rfl (kG rfl rfl (a_mov rfl (kG rfl rfl (a_mov rfl (kG rfl rfl (a_neq rfl rfl (fun h33 => ?_) (fun h33 => ?_)))))))))
        ·exact absurd rfl h33
        ·refine kO rfl (a_pick_f rfl rfl rfl (i_nil (r_cond_f rfl (r_skip (then_n (rS (kO rfl (a_lda rfl (by decide) (.next (.next (.app (.next (.app (.next .here)))))) rfl (kM rfl rfl (kO rfl (a_lda rfl (by decide) (.next (.next (.app (.next (.app (.next .here)))))) rfl (kM rfl rfl (kO rfl (a_callV rfl rfl (fun s1 h1 => CheckCycle_v _ M al cl ls ap cpk ps s1 h1.wf (by omega) (hL.ext hs h1.2.1) (hP.ext hs h1.2.1) hsys) (kZ rfl (a_againa rfl rfl (by decide) (.next (.next (.app (.next (.app (.next .here)))))) rfl (by simp [eqL, eqV, eqA, kindEq, intEq_eq, eqV_sl hL.spot, eqV_sl hP.spot, eqV_sl hX.spot]) (kO rfl (a_callV rfl rfl (fun s1 h1 => rCheckCycle_v _ M al cl ls ap cpk ps s1 h1.wf (by omega) (hL.ext hs h1.2.1) (hP.ext hs h1.2.1) hsys) (kO rfl (a_eql rfl rfl (fun h34 => ?_) (fun h34 => ?_)))))))))))))))))))))
         ·refine kM rfl rfl (kG rfl rfl (a_lda rfl (by decide) (.next (.next (.app (.next (.app (.next .here)))))) rfl (kG rfl rfl (a_mov rfl (kG rfl rfl (a_lda rfl (by decide) (.next (.next (.app (.next (.app (.next .here)))))) rfl (kG rfl rfl (a_mov rfl (kG rfl rfl (a_callV rfl rfl (fun s1 h1 => CheckPoint_s _ _ al cl ls ax cx x s1 h1.wf (by omega) (hL.ext hs h1.2.1) (hX.ext hs h1.2.1)) (kZ rfl (a_againa rfl rfl (by decide) (.next (.next (.app (.next (.app (.next .here)))))) rfl (by simp [eqL, eqV, eqA, kindEq, intEq_eq, eqV_sl hL.spot, eqV_sl hP.spot, eqV_sl hX.spot]) (kG rfl rfl (a_callV rfl rfl (fun s1 h1 => rCheckPoint_s _ _ al cl ls ax cx x s1 h1.wf (by omega) (hL.ext hs h1.2.1) (hX.ext hs h1.2.1)) (kG rfl rfl (a_eql rfl rfl (fun h35 => ?_) (fun h35 => ?_)))))))))))))))))
          ·refine kO rfl (a_pick_t rfl rfl rfl (kM rfl rfl (kG rfl rfl (a_callV rfl rfl (fun s1 h1 => known_s _ s1 h1.wf) (kO rfl (a_pick_t rfl rfl rfl (kM rfl rfl (i_nil (r_ret ?_)))))))))
           exact end1 rfl ⟨rfl, rfl⟩
          ·exact absurd rfl h35
         ·exact absurd rfl h34

end
end Ev
end Go.Proofs.YtcpebhdbpkhhiaaGreat
