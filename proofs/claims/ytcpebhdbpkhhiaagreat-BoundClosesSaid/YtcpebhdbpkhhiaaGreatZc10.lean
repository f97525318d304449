import Derived.Test.YtcpebhdbpkhhiaaGreatZc09
import Derived.Test.YtcpebhdbpkhhiaaGreatZc05
set_option linter.unusedVariables false
set_option linter.unusedSimpArgs false
/- The law BoundEither, by the evaluator. -/
namespace Go.Proofs.YtcpebhdbpkhhiaaGreat
open Go Go.RowKit
namespace Ev
theorem kp_all {ls : List (List Int)} {M : Nat} {x : List Int} (hl : lmB (M : Int) ls = true) (h : kpB x ls = true) : ∀ i, i < ls.length → x.getD (lb ls i) 0 ≤ x.getD (la ls i) 0 + lw ls i := by
  have key : ∀ k, k ≤ ls.length → kpB x (ls.drop k) = true := by
    intro k
    induction k with
    | zero => intro _; rw [List.drop_zero]; exact h
    | succ k ih =>
      intro hk
      have h1 := ih (by omega)
      obtain ⟨y3, e⟩ := (lim_of hl (show k < ls.length by omega)).row
      rw [kp_step e, Bool.and_eq_true] at h1
      exact h1.2
  intro i hi
  have h1 := key i (by omega)
  obtain ⟨y3, e⟩ := (lim_of hl hi).row
  rw [kp_step e, Bool.and_eq_true, Int.toNat_natCast, Int.toNat_natCast] at h1
  have h2 := of_decide_eq_true h1.1
  omega
theorem pt_kp {m : Int} {ls : List (List Int)} {x : List Int} (h : ptB m ls x = true) : kpB x ls = true := by
  unfold ptB at h
  rw [Bool.and_eq_true] at h
  exact h.2
/-- Where a chain contradicts itself, no point is accepted. -/
theorem no_pt {ls : List (List Int)} {M k a : Nat} {c : Nat → Nat × Nat × Nat × Int} {x : List Int} (hl : lmB (M : Int) ls = true) (hp : itr c a (k + 1) = a) (hch : ∀ m, (c (itr c a m)).1 < ls.length ∧ lb ls (c (itr c a m)).1 = itr c a m ∧ la ls (c (itr c a m)).1 = itr c a (m + 1)) (hn : sumC ls c a (k + 1) < 0) : ptB (M : Int) ls x = false := by
  cases q : ptB (M : Int) ls x with
  | false => rfl
  | true =>
    have h1 := kp_all hl (pt_kp q)
    have h2 := pt_chain (x := fun a => x.getD a 0) h1 hch (k + 1)
    rw [hp] at h2
    omega
theorem sb_sys {m : Int} {ls : List (List Int)} (h : sysE m ls = 0) : SB ls (m.toNat + 1) := by
  obtain ⟨h1, h2, h3, h4⟩ := sysE_ok h
  exact sb_of (M := m.toNat) (by rw [Int.toNat_of_nonneg h1]; exact h4) (by omega) (by omega)
theorem chn_fit {ls : List (List Int)} {w : List Int} (h : Chn ls w) (h4 : ls.length ≤ 400) : ∀ z ∈ w, -9223372036854775808 ≤ z ∧ z < 9223372036854775808 := fun z hz => by
  obtain ⟨i, hi, rfl⟩ := List.getElem_of_mem hz
  obtain ⟨j, h1, h2⟩ := h.ix i hi
  rw [List.getD_eq_getElem?_getD, List.getElem?_eq_getElem hi] at h1
  have h3 : w[i] = (j : Int) := h1
  omega
theorem nb_fit {x : List Int} {c : Int} (h : Nb x c) (hc : c ≤ 1000000000) : ∀ z ∈ x, -9223372036854775808 ≤ z ∧ z < 9223372036854775808 := fun z hz => by
  obtain ⟨i, hi, rfl⟩ := List.getElem_of_mem hz
  have h1 := h i hi
  rw [List.getD_eq_getElem?_getD, List.getElem?_eq_getElem hi] at h1
  have h3 : -c ≤ x[i] ∧ x[i] ≤ c := h1
  omega

section
variable {X : FuncId → List Value → St → (Value → St → Bool) → Bool}
theorem CheckPoint_n (n : Nat) (m : Int) (al : Option Addr) (cl : Nat) (ls : List (List Int)) (ax : Option Addr) (cx nx : Nat) (x : List Int) (s : St) (hs : Wf s) (hn : 844424930131968 ≤ n) (hL : RowsE s 4 al ls) (hnx : nx = x.length) (hX : IntsE s ax x) (hsys : sysE m ls = 0) (hp : ptB m ls x = true) : Spec Tryz.prog (tabK tabw) X (n + 1200) 15 [.agg ⟨[.int .i64 m, .slice al ls.length cl]⟩, .slice ax nx cx] s (fun v A => v = .int .i64 0 ∧ A = []) := by
  subst hnx
  have h := CheckPoint_s n m al cl ls ax cx x s hs hn hL hX (X := X)
  rw [if_pos hsys, if_pos hp] at h
  exact h
theorem CheckPoint_0 (n : Nat) (m : Int) (al : Option Addr) (cl : Nat) (ls : List (List Int)) (ax : Option Addr) (cx : Nat) (x : List Int) (s : St) (hs : Wf s) (hn : 844424930131968 ≤ n) (hL : RowsE s 4 al ls) (hX : IntsE s ax x) (hsys : sysE m ls = 0) (hp : ptB m ls x = false) : Spec Tryz.prog (tabK tabw) X (n + 1200) 15 [.agg ⟨[.int .i64 m, .slice al ls.length cl]⟩, .slice ax x.length cx] s (fun v A => v = .int .i64 25 ∧ A = []) := by
  have h := CheckPoint_s n m al cl ls ax cx x s hs hn hL hX (X := X)
  rw [if_pos hsys, if_neg (by rw [hp]; decide)] at h
  exact h
theorem rCheckPoint_n (n : Nat) (m : Int) (al : Option Addr) (cl : Nat) (ls : List (List Int)) (ax : Option Addr) (cx nx : Nat) (x : List Int) (s : St) (hs : Wf s) (hn : 1125899906842624 ≤ n) (hL : RowsE s 4 al ls) (hnx : nx = x.length) (hX : IntsE s ax x) (hsys : sysE m ls = 0) (hp : ptB m ls x = true) : Spec Tryz.prog (tabK tabw) X (n + 1300) 16 [.agg ⟨[.int .i64 m, .slice al ls.length cl]⟩, .slice ax nx cx] s (fun v A => v = .int .i64 0 ∧ A = []) := by
  subst hnx
  have h := rCheckPoint_s n m al cl ls ax cx x s hs hn hL hX (X := X)
  rw [if_pos hsys, if_pos hp] at h
  exact h
theorem CheckCycle_n (n : Nat) (M : Nat) (al : Option Addr) (cl : Nat) (ls : List (List Int)) (ax : Option Addr) (cx nx : Nat) (x : List Int) (s : St) (hs : Wf s) (hn : 1688849860263936 ≤ n) (hL : RowsE s 4 al ls) (hnx : nx = x.length) (hX : IntsE s ax x) (hsys : sysE (M : Int) ls = 0) (hC : Chn ls x) : Spec Tryz.prog (tabK tabw) X (n + 2500) 13 [.agg ⟨[.int .i64 (M : Int), .slice al ls.length cl]⟩, .slice ax nx cx] s (fun v A => v = .int .i64 0 ∧ A = []) := by
  subst hnx
  exact CheckCycle_s n M al cl ls ax cx x s hs hn hL hX hsys hC (X := X)

set_option maxRecDepth 100000 in
theorem BoundEither_s (n : Nat) (m : Int) (al : Option Addr) (cl : Nat) (ls : List (List Int)) (ap : Option Addr) (cpk : Nat) (ps : List Int) (ax : Option Addr) (cx : Nat) (x : List Int) (s : St) (hs : Wf s) (hn : 5629499534213120 ≤ n) (hL : RowsE s 4 al ls) (hP : IntsE s ap ps) (hX : IntsE s ax x) : Spec Tryz.prog (tabK tabw) (knownX 17) (n + 9500) 4 [.agg ⟨[.int .i64 m, .slice al ls.length cl]⟩, .slice ap ps.length cpk, .slice ax x.length cx] s (fun v A => v = .bool true ∧ A = []) := by
 refine enter bw4_at rfl hs ?_
 unfold bw4
 have hlen := hL.len
 have hlenP := hP.len
 have hlenX := hX.len
 refine rS (kO rfl (a_box rfl rfl rfl (fun b1 => (kM rfl rfl (i_nil (rS (kO rfl (a_lda rfl (by decide) .here rfl (kM rfl rfl (kO rfl (a_call rfl rfl (fun s1 h1 => Point_s _ m al cl ls ap cpk ps s1 h1.wf (by omega) (hL.ext hs h1.2.1) (hP.ext hs h1.2.1)) (fun v1 A1 q1 => ?_))))))))))))
 rcases q1 with ⟨hp, rfl, rfl⟩ | ⟨hp, hpu, rfl, rfl⟩ | ⟨hp, hpu, q1⟩
 ·have hp0 := hp
  refine kM rfl rfl (kO rfl (a_ext rfl rfl (kO rfl (a_ext rfl rfl (kM rfl rfl (kM rfl rfl (i_nil (rS (kO rfl (a_lda rfl (by decide) .here rfl (kO rfl (a_call rfl rfl (fun s1 h1 => Cycle_s _ _ al cl ls s1 h1.wf (by omega) (hL.ext hs h1.2.1) sb_sys) (fun v1 A1 q1 => ?_)))))))))))))
  rcases q1 with ⟨hy0, rfl, rfl⟩ | ⟨hy0, hyu, rfl, rfl⟩ | ⟨hy0, hyu, q1⟩
  ·refine kM rfl rfl (kO rfl (a_ext rfl rfl (kO rfl (a_ext rfl rfl (kM rfl rfl (kM rfl rfl (i_nil (rQ (rS (kO rfl (a_lda rfl (by decide) .here rfl (kO rfl (a_callV rfl rfl (fun s1 h1 => rCheck_s _ _ _ _ _ s1 h1.wf (by omega) (hL.ext hs h1.2.1)) (kO rfl (a_neq rfl rfl (fun h5 => ?_) (fun h5 => ?_))))))))))))))))
   ·refine i_nil (r_cond_t rfl (rS (kM rfl rfl (kO rfl (a_lda rfl (by decide) .here rfl (kO rfl (a_callV rfl rfl (fun s1 h1 => rCheck_s _ _ _ _ _ s1 h1.wf (by omega) (hL.ext hs h1.2.1)) (kO rfl (a_eql rfl rfl (fun h6 => ?_) (fun h6 => ?_))))))))))
    ·refine kM rfl rfl (kG rfl rfl (a_mov rfl (kG rfl rfl (a_mov rfl (kG rfl rfl (a_eql rfl rfl (fun h7 => ?_) (fun h7 => ?_)))))))
     ·refine kO rfl (a_pick_t rfl rfl rfl (kM rfl rfl (kG rfl rfl (a_callV rfl rfl (fun s1 h1 => known_s _ s1 h1.wf) (kO rfl (a_pick_t rfl rfl rfl (kM rfl rfl (i_nil (r_ret (then_r ?_))))))))))
      exact end1 rfl ⟨rfl, rfl⟩
     ·exact absurd rfl h7
    ·exact absurd rfl h6
   ·exfalso; omega
  ·exact absurd hy0 hp0
  ·exact absurd hy0 hp0
 ·have hsys := hp
  obtain ⟨hm0, hM, h400, hlm⟩ := sysE_ok hsys
  obtain ⟨M, rfl⟩ : ∃ q : Nat, m = (q : Int) := ⟨m.toNat, by omega⟩
  have hM : M ≤ 64 := by omega
  have h400 : ls.length ≤ 400 := by omega
  change Uns ls (M + 1) at hpu
  refine kM rfl rfl (kO rfl (a_ext rfl rfl (kO rfl (a_ext rfl rfl (kM rfl rfl (kM rfl rfl (i_nil (rS (kO rfl (a_lda rfl (by decide) .here rfl (kO rfl (a_call rfl rfl (fun s1 h1 => Cycle_s _ _ al cl ls s1 h1.wf (by omega) (hL.ext hs h1.2.1) sb_sys) (fun v1 A1 q1 => ?_)))))))))))))
  rcases q1 with ⟨hy0, rfl, rfl⟩ | ⟨hy0, hyu, rfl, rfl⟩ | ⟨hy0, hyu, q1⟩
  ·exact absurd hsys hy0
  ·exact absurd hpu hyu
  ·obtain ⟨bc8, kc, cpc, opc, wc, l0, rfl, rfl, hwl, hkm, hl0, hle, hitr, hwc⟩ := q1
   change kc + 1 ≤ M + 1 at hkm
   obtain ⟨hch, hng⟩ := uns_neg hlm h400 hM hl0 hle hitr
   have hC : Chn ls wc := chn_of hwl (by omega) hwc hitr hch hng
   have hno := no_pt (x := x) hlm hitr hch hng
   have hfit := chn_fit hC h400
   refine kM rfl rfl (kO rfl (a_ext rfl rfl (kO rfl (a_ext rfl rfl (kM rfl rfl (kM rfl rfl (i_nil (rQ (rS (kO rfl (a_lda rfl (by decide) (.next .here) rfl (kO rfl (a_callV rfl rfl (fun s1 h1 => rCheck_s _ _ _ _ _ s1 h1.wf (by omega) (hL.ext hs h1.2.1)) (kO rfl (a_neq rfl rfl (fun h9 => ?_) (fun h9 => ?_))))))))))))))))
   ·exfalso; omega
   ·refine i_nil (r_cond_f rfl (r_skip (then_n (rQ (rS (kM rfl rfl (kO rfl (a_neq rfl rfl (fun h => absurd h (by decide)) (fun _ => (kM rfl rfl (kG rfl rfl (a_mov rfl (kG rfl rfl (a_neq rfl rfl (fun _ => (kG rfl rfl (a_mov rfl (kG rfl rfl (a_mov rfl (kG rfl rfl (a_neq rfl rfl (fun h => absurd h (by decide)) (fun _ => (kG rfl rfl (a_pick_t rfl rfl rfl (kO rfl (a_pick_f rfl rfl rfl (i_nil (r_cond_f rfl (r_skip (then_n (rQ (rS (kM rfl rfl (kO rfl (a_eql rfl rfl (fun h => absurd h (by decide)) (fun _ => ?_)))))))))))))))))))))) (fun h => absurd h (by decide))))))))))))))))
    refine i_nil (r_cond_f rfl (r_skip (then_n (rS (kM rfl rfl (kO rfl (a_len rfl (kO rfl (a_gtr rfl rfl (fun h14 => ?_) (fun h14 => ?_))))))))))
    ·refine kM rfl rfl (kG rfl rfl (a_mov rfl (kG rfl rfl (a_len rfl (kG rfl rfl (a_fa rfl (kG rfl rfl (a_ld rfl (.next .here) rfl (kG rfl rfl (a_add rfl rfl (by omega) (kG rfl rfl (a_leq rfl rfl (fun h15 => ?_) (fun h15 => ?_)))))))))))))
     ·refine kO rfl (a_pick_t rfl rfl rfl (kM rfl rfl (kG rfl rfl (a_lda rfl (by decide) (.next .here) rfl (kG rfl rfl (a_mov rfl (kG rfl rfl (a_callV rfl rfl (fun s1 h1 => CheckCycle_n _ M al cl ls _ _ _ _ s1 h1.wf (by omega) (hL.ext hs h1.2.1) hwl.symm (IntsE.own (h1.own .here) hfit (by omega)) hsys hC) (kG rfl rfl (a_eql rfl rfl (fun _ => (kO rfl (a_pick_t rfl rfl rfl (kM rfl rfl (kG rfl rfl (a_lda rfl (by decide) (.next .here) rfl (kG rfl rfl (a_mov rfl (kG rfl rfl (a_callV rfl rfl (fun s1 h1 => CheckPoint_0 _ _ al cl ls ax cx x s1 h1.wf (by omega) (hL.ext hs h1.2.1) (hX.ext hs h1.2.1) hsys hno) (kG rfl rfl (a_eql rfl rfl (fun _ => (kO rfl (a_pick_t rfl rfl rfl (kM rfl rfl (kG rfl rfl (a_callV rfl rfl (fun s1 h1 => known_s _ s1 h1.wf) (kO rfl (a_pick_t rfl rfl rfl (kM rfl rfl (i_nil (r_ret ?_))))))))))) (fun h => absurd h (by decide)))))))))))))) (fun h => absurd h (by decide))))))))))))
      exact end1 rfl ⟨rfl, rfl⟩
     ·exfalso; omega
    ·exfalso; omega
 ·obtain ⟨bp2, opp, cpp, Dp3, rfl, rfl, hDT⟩ := q1
  have hsys := hp
  obtain ⟨hm0, hM, h400, hlm⟩ := sysE_ok hsys
  obtain ⟨M, rfl⟩ : ∃ q : Nat, m = (q : Int) := ⟨m.toNat, by omega⟩
  have hM : M ≤ 64 := by omega
  have h400 : ls.length ≤ 400 := by omega
  change ¬ Uns ls (M + 1) at hpu
  change DT ls (M + 1) Dp3 at hDT
  rw [show ((M : Int).toNat) = M from rfl]
  obtain ⟨y, hy, hyb⟩ := set_pt hlm h400 hM hpu
  have hS := hDT.sm hy hyb
  have hpt := ptL_pt (ps := ps) hlm hDT hS hM
  have hfit := nb_fit (ptL_ok (ps := ps) hDT hS hM (Nat.le_refl M)).2.1 (by omega)
  have hln : (ptL Dp3 ps M).length = M + 1 := ptL_len
  refine kM rfl rfl (kO rfl (a_ext rfl rfl (kO rfl (a_ext rfl rfl (kM rfl rfl (kM rfl rfl (i_nil (rS (kO rfl (a_lda rfl (by decide) (.next .here) rfl (kO rfl (a_call rfl rfl (fun s1 h1 => Cycle_s _ _ al cl ls s1 h1.wf (by omega) (hL.ext hs h1.2.1) sb_sys) (fun v1 A1 q1 => ?_)))))))))))))
  rcases q1 with ⟨hy0, rfl, rfl⟩ | ⟨hy0, hyu, rfl, rfl⟩ | ⟨hy0, hyu, q1⟩
  ·exact absurd hsys hy0
  ·have hcy := hyu
   refine kM rfl rfl (kO rfl (a_ext rfl rfl (kO rfl (a_ext rfl rfl (kM rfl rfl (kM rfl rfl (i_nil (rQ (rS (kO rfl (a_lda rfl (by decide) (.next .here) rfl (kO rfl (a_callV rfl rfl (fun s1 h1 => rCheck_s _ _ _ _ _ s1 h1.wf (by omega) (hL.ext hs h1.2.1)) (kO rfl (a_neq rfl rfl (fun h19 => ?_) (fun h19 => ?_))))))))))))))))
   ·exfalso; omega
   ·refine i_nil (r_cond_f rfl (r_skip (then_n (rQ (rS (kM rfl rfl (kO rfl (a_neq rfl rfl (fun h => absurd h (by decide)) (fun _ => (kM rfl rfl (kG rfl rfl (a_mov rfl (kG rfl rfl (a_neq rfl rfl (fun h => absurd h (by decide)) (fun _ => (kG rfl rfl (a_mov rfl (i_no rfl rfl (i_no rfl rfl (kG rfl rfl (a_pick_f rfl rfl rfl (kO rfl (a_pick_f rfl rfl rfl (i_nil (r_cond_f rfl (r_skip (then_n (rQ (rS (kM rfl rfl (kO rfl (a_eql rfl rfl (fun _ => ?_) (fun h => absurd h (by decide))))))))))))))))))))))))))))))))))
    refine i_nil (r_cond_t rfl (rS (kM rfl rfl (kO rfl (a_len0 rfl (kO rfl (a_eql rfl rfl (fun _ => (kM rfl rfl (kG rfl rfl (a_lda rfl (by decide) (.next .here) rfl (kG rfl rfl (a_mov rfl (kG rfl rfl (a_callV rfl rfl (fun s1 h1 => CheckPoint_n _ _ al cl ls _ _ _ _ s1 h1.wf (by omega) (hL.ext hs h1.2.1) hln.symm (IntsE.own (h1.own .here) hfit (by omega)) hsys hpt) (kG rfl rfl (a_eql rfl rfl (fun _ => (kO rfl (a_pick_t rfl rfl rfl (kM rfl rfl (kG rfl rfl (a_lda rfl (by decide) (.next .here) rfl (kG rfl rfl (a_mov rfl (kG rfl rfl (a_callV rfl rfl (fun s1 h1 => rCheckPoint_n _ _ al cl ls _ _ _ _ s1 h1.wf (by omega) (hL.ext hs h1.2.1) hln.symm (IntsE.own (h1.own .here) hfit (by omega)) hsys hpt) (kG rfl rfl (a_eql rfl rfl (fun _ => (kO rfl (a_pick_t rfl rfl rfl (kM rfl rfl (kG rfl rfl (a_callV rfl rfl (fun s1 h1 => known_s _ s1 h1.wf) (kO rfl (a_pick_t rfl rfl rfl (kM rfl rfl (i_nil (r_ret ?_))))))))))) (fun h => absurd h (by decide)))))))))))))) (fun h => absurd h (by decide)))))))))))) (fun h => absurd h (by decide)))))))))
    refine then_r ?_
    exact end1 rfl ⟨rfl, rfl⟩
  ·exact absurd hyu hpu

end
end Ev
end Go.Proofs.YtcpebhdbpkhhiaaGreat

/- Simple ways along limits; the table of ways. -/
namespace Go.Proofs.YtcpebhdbpkhhiaaGreat
open Go Go.RowKit
namespace Ev
theorem sls_new {B : Nat → Nat} {n m i b : Nat} (h : i < m) : (slsT (updB B i b) n (i + 1) m)[0 + i * 1]? = some (.slice (some ⟨b, 0, none⟩) n n) := by
  rw [sls_get (by omega) h]; simp [updB]
/-- The row of an unknown while it is laid. -/
def dg (n i k : Nat) : List Int := rowT (fun _ j => if j < k ∧ ¬ j = i then 1000000000 else 0) n i
theorem dg_len {n i k : Nat} : (dg n i k).length = n := rowT_len
theorem rowT_ext {T T' : Nat → Nat → Int} {n i i' : Nat} (h : ∀ j, j < n → T i j = T' i' j) : rowT T n i = rowT T' n i' := by
  unfold rowT
  exact List.map_congr_left (fun j hj => h j (List.mem_range.1 hj))
theorem dg_zero {n i : Nat} : List.replicate n 0 = dg n i 0 := by
  refine List.ext_getElem? (fun j => ?_)
  unfold dg rowT
  rw [List.getElem?_replicate, List.getElem?_map]
  by_cases h : j < n
  · rw [if_pos h, List.getElem?_range h]; rfl
  · rw [if_neg h, List.getElem?_eq_none (by simp; omega)]; rfl
theorem dg_skip {n i k : Nat} (h : k = i) : dg n i (k + 1) = dg n i k := by
  subst h
  refine rowT_ext (fun j hj => ?_)
  by_cases h1 : j < k
  · rw [if_pos ⟨by omega, by omega⟩, if_pos ⟨h1, by omega⟩]
  · rw [if_neg (by omega), if_neg (by omega)]
theorem dg_set {n i k : Nat} (h : ¬ k = i) : (dg n i k).set k 1000000000 = dg n i (k + 1) := by
  unfold dg
  rw [rowT_set]
  refine rowT_ext (fun j hj => ?_)
  unfold updT
  by_cases h1 : j = k
  · subst h1
    rw [if_pos ⟨rfl, rfl⟩, if_pos ⟨by omega, h⟩]
  · rw [if_neg (by omega)]
    show (if j < k ∧ ¬ j = i then (1000000000 : Int) else 0) = _
    by_cases h2 : j < k ∧ ¬ j = i
    · rw [if_pos h2, if_pos ⟨by omega, h2.2⟩]
    · rw [if_neg h2, if_neg (by omega)]
def T0 : Nat → Nat → Int := fun i k => if i = k then 0 else 1000000000
theorem dg_end {n i k : Nat} (h : k = n) : dg n i k = rowT T0 n i := by
  subst h
  refine rowT_ext (fun j hj => ?_)
  unfold T0
  by_cases h1 : j = i
  · subst h1
    rw [if_neg (by omega), if_pos rfl]
  · rw [if_pos ⟨hj, h1⟩, if_neg (by omega)]
/-- The numbers with the first limits. -/
def limT (ls : List (List Int)) : Nat → Nat → Nat → Int
  | 0 => T0
  | k + 1 => updT (limT ls k) ((ls.getD k []).getD 0 0).toNat ((ls.getD k []).getD 1 0).toNat (min (limT ls k ((ls.getD k []).getD 0 0).toNat ((ls.getD k []).getD 1 0).toNat) ((ls.getD k []).getD 2 0))
theorem limT_step {ls : List (List Int)} {k u0 u1 : Nat} {y2 y3 : Int} (h : ls[k]? = some [(u0 : Int), (u1 : Int), y2, y3]) : limT ls (k + 1) = updT (limT ls k) u0 u1 (min (limT ls k u0 u1) y2) := by
  have e : ls.getD k [] = [(u0 : Int), (u1 : Int), y2, y3] := by rw [List.getD_eq_getElem?_getD, h]; rfl
  show updT _ _ _ _ = _
  rw [e]; rfl
/-- A way through m, and how the ways grow. -/
def stp (T : Nat → Nat → Int) (m i k : Nat) : Nat → Nat → Int :=
  if ¬ T i m = 1000000000 ∧ ¬ T m k = 1000000000 then updT T i k (max (min (T i k) (T i m + T m k)) (-2560000)) else T
def kT (T : Nat → Nat → Int) (m i : Nat) : Nat → Nat → Nat → Int
  | 0 => T
  | k + 1 => stp (kT T m i k) m i k
def iT (T : Nat → Nat → Int) (N m : Nat) : Nat → Nat → Nat → Int
  | 0 => T
  | i + 1 => kT (iT T N m i) m i N
def mT (T : Nat → Nat → Int) (N : Nat) : Nat → Nat → Nat → Int
  | 0 => T
  | m + 1 => iT (mT T N m) N m N
def wm (ls : List (List Int)) (N m : Nat) : Nat → Nat → Int := mT (limT ls ls.length) N m
def wi (ls : List (List Int)) (N m i : Nat) : Nat → Nat → Int := iT (wm ls N m) N m i
def wk (ls : List (List Int)) (N m i k : Nat) : Nat → Nat → Int := kT (wi ls N m i) m i k
/-- The numbers on the way are not great. -/
def WB (ls : List (List Int)) (N : Nat) : Prop := ∀ m i k, m < N → i < N → k < N → ∀ a b, a < N → b < N → -1000000000000000000 ≤ wk ls N m i k a b ∧ wk ls N m i k a b ≤ 1000000000000000000
theorem wk_go {ls : List (List Int)} {N m i k : Nat} (h1 : ¬ wk ls N m i k i m = 1000000000) (h2 : ¬ wk ls N m i k m k = 1000000000) : updT (wk ls N m i k) i k (max (min (wk ls N m i k i k) (wk ls N m i k i m + wk ls N m i k m k)) (-2560000)) = wk ls N m i (k + 1) := (if_pos ⟨h1, h2⟩).symm
theorem wk_no {ls : List (List Int)} {N m i k : Nat} (h : ¬ (¬ wk ls N m i k i m = 1000000000 ∧ ¬ wk ls N m i k m k = 1000000000)) : wk ls N m i k = wk ls N m i (k + 1) := (if_neg h).symm
/-- A way along limits; the unknowns on it. -/
inductive Pth (ls : List (List Int)) : Nat → List Nat → Nat → Int → Prop where
  | one {i : Nat} (hi : i < ls.length) : Pth ls (la ls i) [] (lb ls i) (lw ls i)
  | cons {i : Nat} {L : List Nat} {k : Nat} {w : Int} (hi : i < ls.length) (h : Pth ls (lb ls i) L k w) : Pth ls (la ls i) (lb ls i :: L) k (lw ls i + w)
theorem Pth.app {ls : List (List Int)} {a v b : Nat} {L L' : List Nat} {w w' : Int} (h : Pth ls a L v w) (h' : Pth ls v L' b w') : Pth ls a (L ++ v :: L') b (w + w') := by
  induction h with
  | one hi => exact .cons hi h'
  | cons hi _ ih => rw [Int.add_assoc]; exact .cons hi (ih h')
theorem Pth.split {ls : List (List Int)} {v b : Nat} {L' : List Nat} : ∀ {L : List Nat} {a : Nat} {w : Int}, Pth ls a (L ++ v :: L') b w → ∃ w1 w2, Pth ls a L v w1 ∧ Pth ls v L' b w2 ∧ w = w1 + w2
  | [], a, w, h => by
    have h' : Pth ls a (v :: L') b w := h
    cases h' with
    | cons hi hq => exact ⟨_, _, .one hi, hq, rfl⟩
  | u :: L, a, w, h => by
    have h' : Pth ls a (u :: (L ++ v :: L')) b w := h
    cases h' with
    | cons hi hq =>
      obtain ⟨w1, w2, h1, h2, h3⟩ := Pth.split hq
      exact ⟨_, w2, .cons hi h1, h2, by omega⟩
theorem lw_bd {ls : List (List Int)} {M i : Nat} (hl : lmB (M : Int) ls = true) (hi : i < ls.length) : -20000 ≤ lw ls i ∧ lw ls i ≤ 20000 := by
  obtain ⟨u0, u1, y2, y3, e, hc⟩ := lm_row hl hi
  have e3 : ls.getD i [] = [(u0 : Int), (u1 : Int), y2, y3] := by rw [List.getD_eq_getElem?_getD, e]; rfl
  have e2 : lw ls i = y2 := by unfold lw; rw [e3]; rfl
  omega
theorem Pth.bd {ls : List (List Int)} {M a b : Nat} {L : List Nat} {w : Int} (hl : lmB (M : Int) ls = true) (h : Pth ls a L b w) : -20000 * ((L.length : Int) + 1) ≤ w ∧ w ≤ 20000 * ((L.length : Int) + 1) := by
  induction h with
  | one hi => have := lw_bd hl hi; show _ ≤ _ ∧ _ ≤ 20000 * (((0 : Nat) : Int) + 1); exact ⟨by show -20000 * (((0 : Nat) : Int) + 1) ≤ _; omega, by omega⟩
  | cons hi _ ih => have := lw_bd hl hi; rw [List.length_cons]; omega
theorem Pth.lt {ls : List (List Int)} {M a b : Nat} {L : List Nat} {w : Int} (hl : lmB (M : Int) ls = true) (h : Pth ls a L b w) : a < M + 1 ∧ b < M + 1 ∧ ∀ v ∈ L, v < M + 1 := by
  induction h with
  | one hi => have hL := lim_of hl hi; exact ⟨hL.ha, hL.hb, fun v hv => absurd hv (List.not_mem_nil)⟩
  | cons hi _ ih =>
    have hL := lim_of hl hi
    refine ⟨hL.ha, ih.2.1, fun v hv => ?_⟩
    rcases List.mem_cons.1 hv with rfl | hv
    · exact hL.hb
    · exact ih.2.2 v hv
theorem Pth.wk {ls : List (List Int)} {f : Nat} {a b : Nat} {L : List Nat} {w w0 : Int} (h0 : Wk ls f a w0) (h : Pth ls a L b w) : Wk ls f b (w0 + w) := by
  induction h generalizing w0 with
  | one hi => exact .step hi h0
  | cons hi _ ih => rw [← Int.add_assoc]; exact ih (.step hi h0)
theorem Pth.pot {ls : List (List Int)} {y : Nat → Int} (hy : ∀ i, i < ls.length → y (lb ls i) ≤ y (la ls i) + lw ls i) {a b : Nat} {L : List Nat} {w : Int} (h : Pth ls a L b w) : y b ≤ y a + w := by
  have := (h.wk (.nil (f := a))).pot hy
  omega
theorem Wk.pth {ls : List (List Int)} {f a : Nat} {w : Int} (h : Wk ls f a w) : (f = a ∧ w = 0) ∨ ∃ L, Pth ls f L a w := by
  induction h with
  | nil => exact .inl ⟨rfl, rfl⟩
  | step hi _ ih =>
    rcases ih with ⟨rfl, rfl⟩ | ⟨L, h⟩
    · exact .inr ⟨[], by rw [Int.zero_add]; exact .one hi⟩
    · exact .inr ⟨_, h.app (.one hi)⟩
theorem Wk.add {ls : List (List Int)} {f a b : Nat} {w w' : Int} (h : Wk ls f a w) (h' : Wk ls a b w') : Wk ls f b (w + w') := by
  induction h' with
  | nil => rw [Int.add_zero]; exact h
  | step hi _ ih => rw [← Int.add_assoc]; exact .step hi ih
theorem twice : ∀ {L : List Nat}, ¬ L.Nodup → ∃ v A B C, L = A ++ v :: (B ++ v :: C)
  | [], h => absurd List.nodup_nil h
  | u :: L, h => by
    by_cases hu : u ∈ L
    · obtain ⟨B, C, e⟩ := List.append_of_mem hu
      exact ⟨u, [], B, C, by rw [e]; rfl⟩
    · have : ¬ L.Nodup := fun q => h (List.nodup_cons.2 ⟨hu, q⟩)
      obtain ⟨v, A, B, C, e⟩ := twice this
      exact ⟨v, u :: A, B, C, by rw [e]; rfl⟩
/-- Where there is a point, ways need come to no unknown twice. -/
theorem Pth.short {ls : List (List Int)} {y : Nat → Int} (hy : ∀ i, i < ls.length → y (lb ls i) ≤ y (la ls i) + lw ls i) {a b : Nat} : ∀ {L : List Nat} {w : Int}, Pth ls a L b w → ∃ L' w', L'.Nodup ∧ Pth ls a L' b w' ∧ w' ≤ w := by
  intro L
  induction hn : L.length using Nat.strongRecOn generalizing L with
  | ind n ih =>
    intro w h
    by_cases q : L.Nodup
    · exact ⟨L, w, q, h, Int.le_refl _⟩
    · obtain ⟨v, A, B, C, rfl⟩ := twice q
      obtain ⟨w1, w2, h1, h2, e⟩ := h.split
      obtain ⟨w3, w4, h3, h4, e2⟩ := h2.split
      have h5 := h3.pot hy
      obtain ⟨L', w', k1, k2, k3⟩ := ih (A ++ v :: C).length (by subst hn; simp; omega) rfl (h1.app h4)
      exact ⟨L', w', k1, k2, by omega⟩
/-- A way that comes back, and is below 0, has one that comes to no unknown twice. -/
theorem Pth.neg {ls : List (List Int)} : ∀ {L : List Nat} {a : Nat} {w : Int}, Pth ls a L a w → w < 0 → ∃ b L' w', L'.Nodup ∧ Pth ls b L' b w' ∧ w' < 0 := by
  intro L
  induction hn : L.length using Nat.strongRecOn generalizing L with
  | ind n ih =>
    intro a w h hw
    by_cases q : L.Nodup
    · exact ⟨a, L, w, q, h, hw⟩
    · obtain ⟨v, A, B, C, rfl⟩ := twice q
      obtain ⟨w1, w2, h1, h2, e⟩ := h.split
      obtain ⟨w3, w4, h3, h4, e2⟩ := h2.split
      by_cases q3 : w3 < 0
      · exact ih B.length (by subst hn; simp; omega) rfl h3 q3
      · exact ih (A ++ v :: C).length (by subst hn; simp; omega) rfl (h1.app h4) (by omega)
theorem chain_pth {ls : List (List Int)} {c : Nat → Nat × Nat × Nat × Int} {a : Nat} (h : ∀ m, (c (itr c a m)).1 < ls.length ∧ lb ls (c (itr c a m)).1 = itr c a m ∧ la ls (c (itr c a m)).1 = itr c a (m + 1)) : ∀ d, ∃ L, Pth ls (itr c a (d + 1)) L a (sumC ls c a (d + 1))
  | 0 => by
    obtain ⟨c1, c2, c3⟩ := h 0
    have := Pth.one c1
    rw [c2, c3] at this
    have e : sumC ls c a (0 + 1) = lw ls (c (itr c a 0)).1 := Int.zero_add _
    rw [e]
    exact ⟨_, this⟩
  | d + 1 => by
    obtain ⟨L, ih⟩ := chain_pth h d
    obtain ⟨c1, c2, c3⟩ := h (d + 1)
    have := Pth.cons (L := L) (k := a) (w := sumC ls c a (d + 1)) c1 (by rw [c2]; exact ih)
    rw [c3] at this
    have e : sumC ls c a (d + 1 + 1) = lw ls (c (itr c a (d + 1))).1 + sumC ls c a (d + 1) := Int.add_comm _ _
    rw [e]
    exact ⟨_, this⟩
theorem nodup_len {L : List Nat} {N : Nat} (h : L.Nodup) (hL : ∀ v ∈ L, v < N) : L.length ≤ N := by
  refine Classical.byContradiction (fun q => ?_)
  obtain ⟨i, j, h1, h2, h3⟩ := pigeon N (fun i => L.getD i 0) (fun i hi => by
    show L.getD i 0 < N
    rw [List.getD_eq_getElem?_getD, List.getElem?_eq_getElem (show i < L.length by omega)]
    exact hL _ (List.getElem_mem _))
  have h3' : L.getD i 0 = L.getD j 0 := h3
  rw [List.getD_eq_getElem?_getD, List.getD_eq_getElem?_getD, List.getElem?_eq_getElem (show i < L.length by omega), List.getElem?_eq_getElem (show j < L.length by omega)] at h3'
  have h4 : L[i]'(by omega) = L[j]'(by omega) := h3'
  have := (List.getElem_inj h).1 h4
  omega
/-- Tables. -/
structure Tg (T : Nat → Nat → Int) : Prop where
  lo : ∀ a b, -2560000 ≤ T a b
  hi : ∀ a b, T a b ≤ 1000000000
def Le2 (T T' : Nat → Nat → Int) : Prop := ∀ a b, T a b ≤ T' a b
theorem stp_le {T : Nat → Nat → Int} {m i k : Nat} (h : Tg T) : Tg (stp T m i k) ∧ Le2 (stp T m i k) T := by
  have key : ∀ a b, -2560000 ≤ stp T m i k a b ∧ stp T m i k a b ≤ T a b := fun a b => by
    have := h.lo a b
    unfold stp
    split
    · unfold updT
      split
      · rename_i e
        obtain ⟨rfl, rfl⟩ := e
        omega
      · omega
    · omega
  exact ⟨⟨fun a b => (key a b).1, fun a b => Int.le_trans (key a b).2 (h.hi a b)⟩, fun a b => (key a b).2⟩
theorem kT_le {T : Nat → Nat → Int} {m i : Nat} (h : Tg T) : ∀ k, Tg (kT T m i k) ∧ Le2 (kT T m i k) T
  | 0 => ⟨h, fun _ _ => Int.le_refl _⟩
  | k + 1 => by
    obtain ⟨h1, h2⟩ := kT_le h k
    obtain ⟨h3, h4⟩ := stp_le (m := m) (i := i) (k := k) h1
    exact ⟨h3, fun a b => Int.le_trans (h4 a b) (h2 a b)⟩
theorem iT_le {T : Nat → Nat → Int} {N m : Nat} (h : Tg T) : ∀ i, Tg (iT T N m i) ∧ Le2 (iT T N m i) T
  | 0 => ⟨h, fun _ _ => Int.le_refl _⟩
  | i + 1 => by
    obtain ⟨h1, h2⟩ := iT_le h i
    obtain ⟨h3, h4⟩ := kT_le (m := m) (i := i) h1 N
    exact ⟨h3, fun a b => Int.le_trans (h4 a b) (h2 a b)⟩
theorem kT_mono {T : Nat → Nat → Int} {m i : Nat} (h : Tg T) {k : Nat} : ∀ {d : Nat}, Le2 (kT T m i (k + d)) (kT T m i k)
  | 0 => fun _ _ => Int.le_refl _
  | d + 1 => fun a b => Int.le_trans ((stp_le (m := m) (i := i) (k := k + d) (kT_le h (k + d)).1).2 a b) (kT_mono h (d := d) a b)
theorem iT_mono {T : Nat → Nat → Int} {N m : Nat} (h : Tg T) {i : Nat} : ∀ {d : Nat}, Le2 (iT T N m (i + d)) (iT T N m i)
  | 0 => fun _ _ => Int.le_refl _
  | d + 1 => fun a b => Int.le_trans ((kT_le (m := m) (i := i + d) (iT_le h (i + d)).1 N).2 a b) (iT_mono h (d := d) a b)
theorem iT_thr {T : Nat → Nat → Int} {N m a b : Nat} (h : Tg T) (ha : a < N) (hb : b < N) (h1 : T a m < 1000000000) (h2 : T m b < 1000000000) : iT T N m N a b ≤ max (T a m + T m b) (-2560000) := by
  have t1 := iT_le (N := N) (m := m) h a
  have t2 := kT_le (m := m) (i := a) t1.1 b
  have l1 : kT (iT T N m a) m a b a m ≤ T a m := Int.le_trans (t2.2 a m) (t1.2 a m)
  have l2 : kT (iT T N m a) m a b m b ≤ T m b := Int.le_trans (t2.2 m b) (t1.2 m b)
  have e : kT (iT T N m a) m a (b + 1) a b ≤ max (T a m + T m b) (-2560000) := by
    show stp (kT (iT T N m a) m a b) m a b a b ≤ _
    unfold stp
    rw [if_pos ⟨by omega, by omega⟩]
    show updT _ a b _ a b ≤ _
    unfold updT
    rw [if_pos ⟨rfl, rfl⟩]
    omega
  have e2 : iT T N m (a + 1) a b ≤ max (T a m + T m b) (-2560000) := by
    show kT (iT T N m a) m a N a b ≤ _
    have := kT_mono (m := m) (i := a) t1.1 (k := b + 1) (d := N - (b + 1)) a b
    rw [show b + 1 + (N - (b + 1)) = N by omega] at this
    omega
  have := iT_mono (N := N) (m := m) h (i := a + 1) (d := N - (a + 1)) a b
  rw [show a + 1 + (N - (a + 1)) = N by omega] at this
  omega
theorem T0_g : Tg T0 := ⟨fun a b => by unfold T0; split <;> omega, fun a b => by unfold T0; split <;> omega⟩
theorem limT_g {ls : List (List Int)} {M : Nat} (hl : lmB (M : Int) ls = true) : ∀ {k : Nat}, k ≤ ls.length → Tg (limT ls k) ∧ Le2 (limT ls k) T0 ∧ ∀ i, i < k → limT ls k (la ls i) (lb ls i) ≤ lw ls i
  | 0, _ => ⟨T0_g, fun _ _ => Int.le_refl _, fun i hi => absurd hi (Nat.not_lt_zero i)⟩
  | k + 1, hk => by
    obtain ⟨h1, h2, h3⟩ := limT_g hl (k := k) (by omega)
    have hL := lim_of hl (show k < ls.length by omega)
    have hw := lw_bd hl (show k < ls.length by omega)
    have e : ∀ a b, limT ls (k + 1) a b = if a = la ls k ∧ b = lb ls k then min (limT ls k (la ls k) (lb ls k)) (lw ls k) else limT ls k a b := fun a b => by
      show updT (limT ls k) _ _ _ a b = _
      rw [hL.ea, hL.eb, Int.toNat_natCast, Int.toNat_natCast]; rfl
    refine ⟨⟨fun a b => ?_, fun a b => ?_⟩, fun a b => ?_, fun i hi => ?_⟩
    · rw [e]
      have := h1.lo a b; have := h1.lo (la ls k) (lb ls k)
      split <;> omega
    · rw [e]
      have := h1.hi a b; have := h1.hi (la ls k) (lb ls k)
      split <;> omega
    · rw [e]
      split
      · rename_i q; obtain ⟨rfl, rfl⟩ := q; have := h2 (la ls k) (lb ls k); omega
      · exact h2 a b
    · rw [e]
      by_cases q : i = k
      · subst q; rw [if_pos ⟨rfl, rfl⟩]; omega
      · have := h3 i (by omega)
        split
        · rename_i r; rw [r.1, r.2] at this; omega
        · exact this
theorem wm_g {ls : List (List Int)} {M N : Nat} (hl : lmB (M : Int) ls = true) : ∀ m, Tg (wm ls N m) ∧ Le2 (wm ls N m) (limT ls ls.length)
  | 0 => ⟨(limT_g hl (Nat.le_refl _)).1, fun _ _ => Int.le_refl _⟩
  | m + 1 => by
    obtain ⟨h1, h2⟩ := wm_g (N := N) hl m
    obtain ⟨h3, h4⟩ := iT_le (N := N) (m := m) h1 N
    exact ⟨h3, fun a b => Int.le_trans (h4 a b) (h2 a b)⟩
theorem wb_all {ls : List (List Int)} {M N : Nat} (hl : lmB (M : Int) ls = true) : WB ls N := fun m i k _ _ _ a b _ _ => by
  have h1 := (iT_le (N := N) (m := m) (wm_g (N := N) hl m).1 i).1
  have h2 := (kT_le (m := m) (i := i) h1 k).1
  have h3 := h2.lo a b
  have h4 := h2.hi a b
  show -1000000000000000000 ≤ kT (iT (wm ls N m) N m i) m i k a b ∧ kT (iT (wm ls N m) N m i) m i k a b ≤ 1000000000000000000
  omega
/-- What the table knows of ways through the first unknowns. -/
theorem wm_pth {ls : List (List Int)} {M : Nat} (hl : lmB (M : Int) ls = true) (hM : M ≤ 64) : ∀ {m : Nat}, m ≤ M + 1 → ∀ {a b : Nat} {L : List Nat} {w : Int}, L.Nodup → (∀ v ∈ L, v < m) → Pth ls a L b w → wm ls (M + 1) m a b ≤ w
  | 0, _, a, b, L, w, _, hL, h => by
    match L, hL, h with
    | [], _, h =>
      cases h with
      | one hi => exact (limT_g hl (Nat.le_refl _)).2.2 _ hi
    | v :: L, hL, _ => exact absurd (hL v (by simp)) (Nat.not_lt_zero v)
  | m + 1, hm, a, b, L, w, hn, hL, h => by
    have hg := (wm_g (N := M + 1) hl m).1
    by_cases q : m ∈ L
    · obtain ⟨A, B, rfl⟩ := List.append_of_mem q
      obtain ⟨w1, w2, h1, h2, e⟩ := h.split
      have hn2 := List.nodup_append.1 hn
      have hnB := List.nodup_cons.1 hn2.2.1
      have hA : ∀ v ∈ A, v < m := fun v hv => by
        have h3 := hL v (by simp [hv])
        have h4 : v ≠ m := fun e => hn2.2.2 v hv m (by simp) e
        omega
      have hB : ∀ v ∈ B, v < m := fun v hv => by
        have h3 := hL v (by simp [hv])
        have h4 : v ≠ m := fun e => hnB.1 (e ▸ hv)
        omega
      have r1 := wm_pth hl hM (m := m) (by omega) hn2.1 hA h1
      have r2 := wm_pth hl hM (m := m) (by omega) hnB.2 hB h2
      have b0 := h.bd hl
      have b1 := h1.bd hl
      have b2 := h2.bd hl
      have l0 := nodup_len hn (fun v hv => show v < 65 by have := hL v hv; omega)
      have l1 := nodup_len hn2.1 (fun v hv => show v < 65 by have := hA v hv; omega)
      have l2 := nodup_len hnB.2 (fun v hv => show v < 65 by have := hB v hv; omega)
      have k1 := h1.lt hl
      have k2 := h2.lt hl
      have := iT_thr (N := M + 1) (m := m) hg k1.1 k2.2.1 (by omega) (by omega)
      show iT (wm ls (M + 1) m) (M + 1) m (M + 1) a b ≤ w
      omega
    · have r := wm_pth hl hM (m := m) (by omega) hn (fun v hv => by
        have h3 := hL v hv
        have h4 : v ≠ m := fun e => q (e ▸ hv)
        omega) h
      exact Int.le_trans ((iT_le (N := M + 1) (m := m) hg (M + 1)).2 a b) r
/-- Where there is a point, what the table holds is a way. -/
def Att (ls : List (List Int)) (T : Nat → Nat → Int) : Prop := ∀ a b, T a b = 1000000000 ∨ Wk ls a b (T a b)
theorem stp_att {ls : List (List Int)} {M N : Nat} {T : Nat → Nat → Int} {y : Nat → Int} {m i k : Nat} (hy : ∀ i, i < ls.length → y (lb ls i) ≤ y (la ls i) + lw ls i) (hb : ∀ a, a < N → -1300000 ≤ y a ∧ y a ≤ 0) (hi : i < N) (hk : k < N) (h : Att ls T) : Att ls (stp T m i k) := by
  unfold stp
  split
  · rename_i q
    intro a b
    unfold updT
    by_cases e : a = i ∧ b = k
    · rw [if_pos e]
      obtain ⟨rfl, rfl⟩ := e
      have w1 := (h a m).resolve_left q.1
      have w2 := (h m b).resolve_left q.2
      have w3 := w1.add w2
      have p3 := w3.pot hy
      have ba := hb a hi
      have bb := hb b hk
      by_cases c : T a b ≤ T a m + T m b
      · rw [show max (min (T a b) (T a m + T m b)) (-2560000) = T a b from by
          rcases h a b with e | e
          · omega
          · have := e.pot hy; omega]
        exact h a b
      · rw [show max (min (T a b) (T a m + T m b)) (-2560000) = T a m + T m b by omega]
        exact .inr w3
    · rw [if_neg e]; exact h a b
  · exact h
theorem wm_att {ls : List (List Int)} {M : Nat} {y : Nat → Int} (hl : lmB (M : Int) ls = true) (hy : ∀ i, i < ls.length → y (lb ls i) ≤ y (la ls i) + lw ls i) (hb : ∀ a, a < M + 1 → -1300000 ≤ y a ∧ y a ≤ 0) : ∀ {m : Nat}, Att ls (wm ls (M + 1) m) := by
  have hlim : ∀ {k : Nat}, k ≤ ls.length → Att ls (limT ls k) := by
    intro k
    induction k with
    | zero => intro _ a b; show T0 a b = _ ∨ Wk ls a b (T0 a b); unfold T0; split
              · rename_i e; subst e; exact .inr .nil
              · exact .inl rfl
    | succ k ih =>
      intro hk a b
      have hL := lim_of hl (show k < ls.length by omega)
      have ih := ih (by omega)
      show updT (limT ls k) _ _ _ a b = _ ∨ Wk ls a b (updT (limT ls k) _ _ _ a b)
      rw [hL.ea, hL.eb, Int.toNat_natCast, Int.toNat_natCast]
      unfold updT
      by_cases e : a = la ls k ∧ b = lb ls k
      · rw [if_pos e]
        obtain ⟨rfl, rfl⟩ := e
        show min _ (lw ls k) = _ ∨ Wk ls _ _ (min _ (lw ls k))
        by_cases c : limT ls k (la ls k) (lb ls k) ≤ lw ls k
        · rw [Int.min_eq_left c]; exact ih _ _
        · rw [Int.min_eq_right (by omega)]
          have := Wk.step (show k < ls.length by omega) (Wk.nil (ls := ls) (f := la ls k))
          rw [Int.zero_add] at this
          exact .inr this
      · rw [if_neg e]; exact ih a b
  have hk : ∀ {T : Nat → Nat → Int} {m i : Nat}, i < M + 1 → Att ls T → ∀ {k : Nat}, k ≤ M + 1 → Att ls (kT T m i k) := by
    intro T m i hi h k
    induction k with
    | zero => intro _; exact h
    | succ k ih => intro hk; exact stp_att (M := M) hy hb hi (by omega) (ih (by omega))
  have hi : ∀ {T : Nat → Nat → Int} {m : Nat}, Att ls T → ∀ {i : Nat}, i ≤ M + 1 → Att ls (iT T (M + 1) m i) := by
    intro T m h i
    induction i with
    | zero => intro _; exact h
    | succ i ih => intro q; exact hk (by omega) (ih (by omega)) (Nat.le_refl _)
  intro m
  induction m with
  | zero => exact hlim (Nat.le_refl _)
  | succ m ih => exact hi ih (Nat.le_refl _)
def Snd (T : Nat → Nat → Int) (N : Nat) : Prop := ∀ a, a < N → 0 ≤ T a a
/-- Where a point keeps the system, the table is that of distances. -/
theorem wm_dd {ls : List (List Int)} {M : Nat} {D : Nat → Nat → Int} {y : Nat → Int} (hl : lmB (M : Int) ls = true) (hM : M ≤ 64) (hD : DT ls (M + 1) D) (hy : ∀ i, i < ls.length → y (lb ls i) ≤ y (la ls i) + lw ls i) (hb : ∀ a, a < M + 1 → -1300000 ≤ y a ∧ y a ≤ 0) {a b : Nat} (ha : a < M + 1) (hb' : b < M + 1) : wm ls (M + 1) (M + 1) a b = D a b := by
  have hg := (wm_g (N := M + 1) hl (M + 1)).1
  have hle : ¬ D a b = 1000000000 → wm ls (M + 1) (M + 1) a b ≤ D a b := fun q => by
    rcases ((hD a ha).way b hb' q).pth with ⟨e, e2⟩ | ⟨L, h⟩
    · subst e
      rw [e2]
      have h1 := (wm_g (N := M + 1) hl (M + 1)).2 a a
      have h2 := (limT_g hl (Nat.le_refl _)).2.1 a a
      have h3 : T0 a a = 0 := if_pos rfl
      omega
    · obtain ⟨L', w', h1, h2, h3⟩ := h.short hy
      have := wm_pth hl hM (Nat.le_refl _) h1 (h2.lt hl).2.2 h2
      omega
  rcases wm_att hl hy hb (m := M + 1) a b with q | q
  · by_cases r : D a b = 1000000000
    · rw [q, r]
    · have := hle r
      have := (hD a ha).hi b hb'
      omega
  · have h1 := (hD a ha).walk q (by rw [(hD a ha).own]; decide)
    rw [(hD a ha).own] at h1
    have := hle h1.1
    omega
theorem wm_snd {ls : List (List Int)} {M : Nat} (hl : lmB (M : Int) ls = true) (h4 : ls.length ≤ 400) (hM : M ≤ 64) : Snd (wm ls (M + 1) (M + 1)) (M + 1) ↔ ¬ Uns ls (M + 1) := by
  constructor
  · intro h hu
    obtain ⟨l0, hl0, he⟩ : ∃ u : Nat, u < M + 1 ∧ (stl ls (M + 1) (M + 1)).l = (u : Int) := ((sb_of hl h4 hM).last M (by omega)).resolve_left (hu M (by omega))
    obtain ⟨p, hp1, hp2, hp3⟩ := itr_back (sb_of hl h4 hM).par hl0
    obtain ⟨k, rfl⟩ : ∃ k, p = k + 1 := ⟨p - 1, by omega⟩
    obtain ⟨hch, hn⟩ := uns_neg hl h4 hM hl0 he hp3
    have hway := chain_pth hch
    obtain ⟨L, hw⟩ := hway k
    rw [hp3] at hw
    obtain ⟨b, L', w', h1, h2, h3⟩ := hw.neg hn
    have h5 := wm_pth hl hM (Nat.le_refl _) h1 (h2.lt hl).2.2 h2
    have h6 := h b (h2.lt hl).1
    omega
  · intro h a ha
    obtain ⟨y, hy, hb⟩ := set_pt hl h4 hM h
    rcases wm_att hl hy hb (m := M + 1) a a with q | q
    · rw [q]; decide
    · have := q.pot hy; omega

section
variable {X : FuncId → List Value → St → (Value → St → Bool) → Bool}

end
end Ev
end Go.Proofs.YtcpebhdbpkhhiaaGreat

/- Contracts: the reference of layer 2: ways, closures. -/
namespace Go.Proofs.YtcpebhdbpkhhiaaGreat
open Go Go.RowKit
namespace Ev
theorem snd_step {T : Nat → Nat → Int} {i : Nat} (h : ∀ a, a < i → 0 ≤ T a a) (h2 : ¬ T i i < 0) : ∀ a, a < i + 1 → 0 ≤ T a a := fun a ha => by
  by_cases q : a = i
  · rw [q]; omega
  · exact h a (by omega)

section
variable {X : FuncId → List Value → St → (Value → St → Bool) → Bool}
theorem rWays_s (n : Nat) (M : Nat) (al : Option Addr) (cl : Nat) (ls : List (List Int)) (s : St) (hs : Wf s) (hn : 1688849860263936 ≤ n) (hL : RowsE s 4 al ls) (hM : M ≤ 64) (hlm : lmB (M : Int) ls = true) : Spec Tryz.prog (tabK tabw) X (n + 1500) 23 [.agg ⟨[.int .i64 (M : Int), .slice al ls.length cl]⟩] s (fun v A => ∃ b B, v = .slice (some ⟨b, 0, none⟩) (M + 1) (M + 1) ∧ A = seg B (M + 1) (wm ls (M + 1) (M + 1)) (M + 1) ++ [.row b 25 false (slsT B (M + 1) (M + 1) (M + 1))]) := by
 refine enter bw23_at rfl hs ?_
 unfold bw23
 have hlen := hL.len
 have hWB := wb_all (N := M + 1) hlm
 refine rS (kO rfl (a_box rfl rfl rfl (fun b1 => (kM rfl rfl (i_nil (rS (kO rfl (a_fa rfl (kO rfl (a_ld rfl .here rfl (kO rfl (a_add rfl rfl (by omega) (kM rfl rfl (i_nil (rS (kM rfl rfl (kO rfl (a_mks1 (m := M + 1) (c := M + 1) rfl rfl (by omega) (by omega) (by omega) (fun b2 => (kM rfl rfl (i_nil (rQ (rS (kM rfl rfl (kO rfl (a_len rfl (kM rfl rfl (i_nil (r_block ?_)))))))))))))))))))))))))))))
 rw [sls_zero (B := fun _ => 0) (n := M + 1)]
 refine r_loop (fun j e A => ∃ (i : Nat) (B : Nat → Nat), e = [(1, .pointer (some ⟨b1, 0, none⟩)), (3, .int .i64 ((M : Int) + 1)), (4, .slice (some ⟨b2, 0, none⟩) (M + 1) (M + 1)), (18, .int .i64 ((M + 1 : Nat) : Int)), (19, .int .i64 (i : Int))] ∧ A = (seg B (M + 1) T0 i ++ (.row b2 25 false (slsT B (M + 1) i (M + 1)) :: (.row b1 24 false ([.int .i64 (M : Int), .slice al ls.length cl]) :: []))) ∧ j = M + 1 - i ∧ i ≤ M + 1) 400 281474976710656 281474976710656 ?_ (j := _) (env2 := _) (A2 := _) ?_ ?_ ?_ ?_ ⟨0, fun _ => 0, rfl, rfl, rfl, Nat.zero_le _⟩
 rotate_left
 ·omega
 ·omega
 ·exact (lc 1 rfl (lc 3 rfl (lc 4 rfl (lc 18 rfl (lc 19 rfl Less.nil)))))
 ·exact (.cons_cons _ (.cons_cons _ .slnil))
 rintro n hn j _ _ ⟨i, B, rfl, rfl, rfl, hi⟩
 refine rS (kO rfl (a_lss rfl rfl (fun h3 => ?_) (fun h3 => ?_)))
 ·refine i_nil (rQ (r_cond_t rfl (r_skip (then_n (rQ (r_block (rS (kM rfl rfl (kM rfl rfl (i_nil (rS (kM rfl rfl (kM rfl rfl (kM rfl rfl (kO rfl (a_mksI (m := M + 1) (c := M + 1) rfl rfl (by omega) (by omega) (by omega) (fun b4 => (kO rfl (a_ia (j := i) rfl rfl (by omega) (by omega) (kZ rfl (a_st rfl rfl (by rw [sls_set]; exact (.next (.app .here))) (by rw [Nat.blt_eq, sls_len]; omega) rfl (i_nil (rS (kM rfl rfl (kM rfl rfl (kO rfl (a_ia (j := i) rfl rfl (by omega) (by omega) (kO rfl (a_ld rfl (.next (.app .here)) (sls_new (by omega)) ?_)))))))))))))))))))))))))))))
  refine kO rfl (a_len rfl (kM rfl rfl (i_nil (r_block ?_))))
  rw [dg_zero (i := i)]
  refine r_loop (fun j e A => ∃ (k : Nat), e = [(1, .pointer (some ⟨b1, 0, none⟩)), (3, .int .i64 ((M : Int) + 1)), (4, .slice (some ⟨b2, 0, none⟩) (M + 1) (M + 1)), (5, .int .i64 (i : Int)), (18, .int .i64 ((M + 1 : Nat) : Int)), (19, .int .i64 (i : Int)), (31, .int .i64 ((M + 1 : Nat) : Int)), (32, .int .i64 (k : Int))] ∧ A = (.row b4 3 false (ints (dg (M + 1) i k)) :: (seg B (M + 1) T0 i ++ (.row b2 25 false (slsT (updB B i b4) (M + 1) (i + 1) (M + 1)) :: (.row b1 24 false ([.int .i64 (M : Int), .slice al ls.length cl]) :: [])))) ∧ j = M + 1 - k ∧ k ≤ M + 1) 200 0 281474976710656 ?_ (j := _) (env2 := _) (A2 := _) ?_ ?_ ?_ ?_ ⟨0, rfl, rfl, rfl, Nat.zero_le _⟩
  rotate_left
  ·omega
  ·omega
  ·exact (lc 1 rfl (lc 3 rfl (lc 4 rfl (lc 5 rfl (lc 18 rfl (lc 19 rfl (lc 31 rfl (lc 32 rfl Less.nil))))))))
  ·exact (.cons_cons _ (List.Sublist.append (List.Sublist.refl _) (.cons_cons _ (.cons_cons _ .slnil))))
  rintro n hn j _ _ ⟨k, rfl, rfl, rfl, hk⟩
  have hdl := dg_len (n := M + 1) (i := i) (k := k)
  refine rS (kO rfl (a_lss rfl rfl (fun h5 => ?_) (fun h5 => ?_)))
  ·refine i_nil (rQ (r_cond_t rfl (r_skip (then_n (rQ (r_block (rS (kM rfl rfl (kM rfl rfl (i_nil (rS (kM rfl rfl (kM rfl rfl (kO rfl (a_neq rfl rfl (fun h6 => ?_) (fun h6 => ?_))))))))))))))))
   ·refine i_nil (r_cond_t rfl (rI (kM rfl rfl (kM rfl rfl (kO rfl (a_ia (j := i) rfl rfl (by omega) (by omega) (kO rfl (a_ld rfl (.next (.app .here)) (sls_new (by omega)) (kM rfl rfl (kO rfl (a_ia (j := k) rfl rfl (by omega) (by omega) (kZ rfl (a_stI rfl rfl .here (by first | omega | (simp; done) | (simp [wlen]; omega) | (simp; omega)) (i_nil (block_n (then_n (rI (kO rfl (a_add rfl rfl (by omega) (kM rfl rfl (i_nil (then_n ?_))))))))))))))))))))))
    exact ⟨rfl, _, _, _, (show M + 1 - (k + 1) < M + 1 - k by omega), (lc 1 rfl (lc 3 rfl (lc 4 rfl (lc 5 rfl (lc 18 rfl (lc 19 rfl (lc 31 rfl (lc 32 rfl Less.nil)))))))), (.cons_cons _ (List.Sublist.append (List.Sublist.refl _) (.cons_cons _ (.cons_cons _ .slnil)))), ⟨k + 1, rfl, (by first | (rw [dg_set (by omega)]; done) | (rw [dg_skip (by omega)]; done)), rfl, by omega⟩⟩
   ·refine i_nil (r_cond_f rfl (r_skip (block_n (then_n (rI (kO rfl (a_add rfl rfl (by omega) (kM rfl rfl (i_nil (then_n ?_))))))))))
    exact ⟨rfl, _, _, _, (show M + 1 - (k + 1) < M + 1 - k by omega), (lc 1 rfl (lc 3 rfl (lc 4 rfl (lc 5 rfl (lc 18 rfl (lc 19 rfl (lc 31 rfl (lc 32 rfl Less.nil)))))))), (.cons_cons _ (List.Sublist.append (List.Sublist.refl _) (.cons_cons _ (.cons_cons _ .slnil)))), ⟨k + 1, rfl, (by first | (rw [dg_set (by omega)]; done) | (rw [dg_skip (by omega)]; done)), rfl, by omega⟩⟩
  ·refine i_nil (rQ (r_cond_f rfl (r_exit (then_e (then_e (block_hit (block_n (then_n (rI (kO rfl (a_add rfl rfl (by omega) (kM rfl rfl (i_nil (then_n ?_))))))))))))))
   exact ⟨rfl, _, _, _, (show M + 1 - (i + 1) < M + 1 - i by omega), (lc 1 rfl (lc 3 rfl (lc 4 rfl (lc 18 rfl (lc 19 rfl Less.nil))))), (.cons_cons _ (List.Sublist.append (List.Sublist.refl _) (.cons_cons _ (.cons_cons _ .slnil)))), ⟨i + 1, updB B i b4, rfl, (by rw [dg_end (by omega), ← seg_new]; rfl), rfl, by omega⟩⟩
 ·have hiN : i = M + 1 := by omega
  subst hiN
  refine i_nil (rQ (r_cond_f rfl (r_exit (then_e (then_e (block_hit (then_n (rQ (rS (kO rfl (a_fa rfl (kO rfl (a_ld rfl (.app (.next .here)) rfl (kO rfl (a_lenx rfl hL.spot (kM rfl rfl (i_nil (r_block ?_))))))))))))))))))
  refine r_loop (fun j e A => ∃ (k : Nat), e = [(4, .slice (some ⟨b2, 0, none⟩) (M + 1) (M + 1)), (47, .slice al ls.length cl), (48, .int .i64 (ls.length : Int)), (49, .int .i64 (k : Int))] ∧ A = (seg B (M + 1) (limT ls k) (M + 1) ++ (.row b2 25 false (slsT B (M + 1) (M + 1) (M + 1)) :: (.row b1 24 false ([.int .i64 (M : Int), .slice al ls.length cl]) :: []))) ∧ j = ls.length - k ∧ k ≤ ls.length) 200 0 281474976710656 ?_ (j := _) (env2 := _) (A2 := _) ?_ ?_ ?_ ?_ ⟨0, rfl, rfl, rfl, Nat.zero_le _⟩
  rotate_left
  ·omega
  ·omega
  ·exact (lc 4 rfl (lc 47 rfl (lc 48 rfl (lc 49 rfl Less.nil))))
  ·exact (List.Sublist.append (List.Sublist.refl _) (.cons_cons _ (.cons_cons _ .slnil)))
  rintro n hn j _ _ ⟨k, rfl, rfl, rfl, hk⟩
  refine rS (kO rfl (a_lss rfl rfl (fun h7 => ?_) (fun h7 => ?_)))
  ·obtain ⟨q4, o4, y0, y1, y2, y3, ahL, hx, hat, i0, i1, i2, i3⟩ := hL.row4 (k := k) (by omega)
   have hat2 := hat
   obtain ⟨d0, d1, d2, d3, _⟩ := hat2
   have := i0.lo; have := i0.hi
   have := i1.lo; have := i1.hi
   have := i2.lo; have := i2.hi
   have := i3.lo; have := i3.hi
   have hc4 := lmB_at hlm hx
   obtain ⟨u0, rfl⟩ : ∃ q : Nat, y0 = (q : Int) := ⟨y0.toNat, by omega⟩
   obtain ⟨u1, rfl⟩ : ∃ q : Nat, y1 = (q : Int) := ⟨y1.toNat, by omega⟩
   refine i_nil (rQ (r_cond_t rfl (r_skip (then_n (rQ (r_block (rS (kO rfl (a_iaA (j := k) ahL rfl rfl (by first | rfl | omega) (by first | decide | omega) (kO rfl (a_ldar rfl (by decide) (by assumption) rfl (kO rfl (a_new rfl rfl (fun b8 => (kZ rfl (a_sta rfl rfl .here rfl rfl rfl rfl (i_nil (rI (kM rfl rfl (kO rfl (a_fa rfl (kO rfl (a_ld rfl .here rfl (kO rfl (a_ia (j := u0) rfl rfl (by omega) (by omega) (kO rfl (a_ld rfl (.next (.app .here)) (sls_get (by omega) (by omega)) (kO rfl (a_fa rfl (kO rfl (a_ld rfl .here rfl (kM rfl rfl (kO rfl (a_fa rfl (kO rfl (a_ld rfl .here rfl ?_))))))))))))))))))))))))))))))))))))
   refine kO rfl (a_ia (j := u0) rfl rfl (by omega) (by omega) (kO rfl (a_ld rfl (.next (.app .here)) (sls_get (by omega) (by omega)) (kO rfl (a_fa rfl (kO rfl (a_ld rfl .here rfl (kO rfl (a_ia (j := u1) rfl rfl (by omega) (by omega) (kO rfl (a_ldX (x := (limT ls k) (u0) (u1)) rfl (.next (own_seg (by omega))) (by rw [rowT_len]; omega) (rowT_get (by omega)) (kO rfl (a_fa rfl (kO rfl (a_ld rfl .here rfl (kO rfl (a_min rfl (kO rfl (a_ia (j := u1) rfl rfl (by omega) (by omega) (kZ rfl (a_stI rfl rfl (.next (upd_seg (by omega))) (by rw [rowT_len]; omega) (i_nil (block_n (then_n (rI (kO rfl (a_add rfl rfl (by omega) (kM rfl rfl (i_nil (then_n ?_))))))))))))))))))))))))))))))
   exact ⟨rfl, _, _, _, (show ls.length - (k + 1) < ls.length - k by omega), (lc 4 rfl (lc 47 rfl (lc 48 rfl (lc 49 rfl Less.nil)))), (.cons _ (List.Sublist.append (List.Sublist.refl _) (.cons_cons _ (.cons_cons _ .slnil)))), ⟨k + 1, rfl, (by first | (rw [limT_step hx]; done) | (rw [limT_step hx]; rfl)), rfl, by omega⟩⟩
  ·have hkN : k = ls.length := by omega
   subst hkN
   refine i_nil (rQ (r_cond_f rfl (r_exit (then_e (then_e (block_hit (then_n (rQ (rS (kM rfl rfl (kO rfl (a_len rfl (kM rfl rfl (i_nil (r_block ?_)))))))))))))))
   refine r_loop (fun j e A => ∃ (u : Nat), e = [(4, .slice (some ⟨b2, 0, none⟩) (M + 1) (M + 1)), (75, .int .i64 ((M + 1 : Nat) : Int)), (76, .int .i64 (u : Int))] ∧ A = (seg B (M + 1) (wm ls (M + 1) u) (M + 1) ++ (.row b2 25 false (slsT B (M + 1) (M + 1) (M + 1)) :: [])) ∧ j = M + 1 - u ∧ u ≤ M + 1) 600 562949953421312 281474976710656 ?_ (j := _) (env2 := _) (A2 := _) ?_ ?_ ?_ ?_ ⟨0, rfl, rfl, rfl, Nat.zero_le _⟩
   rotate_left
   ·omega
   ·omega
   ·exact (lc 4 rfl (lc 75 rfl (lc 76 rfl Less.nil)))
   ·exact (List.Sublist.append (List.Sublist.refl _) (.cons_cons _ (.cons _ .slnil)))
   rintro n hn j _ _ ⟨u, rfl, rfl, rfl, hu⟩
   refine rS (kO rfl (a_lss rfl rfl (fun h9 => ?_) (fun h9 => ?_)))
   ·refine i_nil (rQ (r_cond_t rfl (r_skip (then_n (rQ (r_block (rS (kM rfl rfl (kM rfl rfl (i_nil (rS (kM rfl rfl (kO rfl (a_len rfl (kM rfl rfl (i_nil (r_block ?_)))))))))))))))))
    refine r_loop (fun j e A => ∃ (i : Nat), e = [(4, .slice (some ⟨b2, 0, none⟩) (M + 1) (M + 1)), (9, .int .i64 (u : Int)), (75, .int .i64 ((M + 1 : Nat) : Int)), (76, .int .i64 (u : Int)), (80, .int .i64 ((M + 1 : Nat) : Int)), (81, .int .i64 (i : Int))] ∧ A = (seg B (M + 1) (wi ls (M + 1) u i) (M + 1) ++ (.row b2 25 false (slsT B (M + 1) (M + 1) (M + 1)) :: [])) ∧ j = M + 1 - i ∧ i ≤ M + 1) 400 281474976710656 281474976710656 ?_ (j := _) (env2 := _) (A2 := _) ?_ ?_ ?_ ?_ ⟨0, rfl, rfl, rfl, Nat.zero_le _⟩
    rotate_left
    ·omega
    ·omega
    ·exact (lc 4 rfl (lc 9 rfl (lc 75 rfl (lc 76 rfl (lc 80 rfl (lc 81 rfl Less.nil))))))
    ·exact (List.Sublist.append (List.Sublist.refl _) (.cons_cons _ .slnil))
    rintro n hn j _ _ ⟨i, rfl, rfl, rfl, hi2⟩
    refine rS (kO rfl (a_lss rfl rfl (fun h10 => ?_) (fun h10 => ?_)))
    ·refine i_nil (rQ (r_cond_t rfl (r_skip (then_n (rQ (r_block (rS (kM rfl rfl (kM rfl rfl (i_nil (rS (kM rfl rfl (kO rfl (a_len rfl (kM rfl rfl (i_nil (r_block ?_)))))))))))))))))
     refine r_loop (fun j e A => ∃ (k : Nat), e = [(4, .slice (some ⟨b2, 0, none⟩) (M + 1) (M + 1)), (9, .int .i64 (u : Int)), (10, .int .i64 (i : Int)), (75, .int .i64 ((M + 1 : Nat) : Int)), (76, .int .i64 (u : Int)), (80, .int .i64 ((M + 1 : Nat) : Int)), (81, .int .i64 (i : Int)), (85, .int .i64 ((M + 1 : Nat) : Int)), (86, .int .i64 (k : Int))] ∧ A = (seg B (M + 1) (wk ls (M + 1) u i k) (M + 1) ++ (.row b2 25 false (slsT B (M + 1) (M + 1) (M + 1)) :: [])) ∧ j = M + 1 - k ∧ k ≤ M + 1) 200 0 281474976710656 ?_ (j := _) (env2 := _) (A2 := _) ?_ ?_ ?_ ?_ ⟨0, rfl, rfl, rfl, Nat.zero_le _⟩
     rotate_left
     ·omega
     ·omega
     ·exact (lc 4 rfl (lc 9 rfl (lc 10 rfl (lc 75 rfl (lc 76 rfl (lc 80 rfl (lc 81 rfl (lc 85 rfl (lc 86 rfl Less.nil)))))))))
     ·exact (List.Sublist.append (List.Sublist.refl _) (.cons_cons _ .slnil))
     rintro n hn j _ _ ⟨k, rfl, rfl, rfl, hk2⟩
     refine rS (kO rfl (a_lss rfl rfl (fun h11 => ?_) (fun h11 => ?_)))
     ·have hw1 := hWB u i k (by omega) (by omega) (by omega) i u (by omega) (by omega)
      have hw2 := hWB u i k (by omega) (by omega) (by omega) u k (by omega) (by omega)
      have hw3 := hWB u i k (by omega) (by omega) (by omega) i k (by omega) (by omega)
      refine i_nil (rQ (r_cond_t rfl (r_skip (then_n (rQ (r_block (rS (kM rfl rfl (kM rfl rfl (i_nil (rS (kM rfl rfl (kM rfl rfl (kO rfl (a_ia (j := i) rfl rfl (by omega) (by omega) (kO rfl (a_ld rfl (.app .here) (sls_get (by omega) (by omega)) (kM rfl rfl (kO rfl (a_ia (j := u) rfl rfl (by omega) (by omega) (kO rfl (a_ldX (x := (wk ls (M + 1) u i k) (i) (u)) rfl (own_seg (by omega)) (by rw [rowT_len]; omega) (rowT_get (by omega)) (kO rfl (a_neq rfl rfl (fun h12 => ?_) (fun h12 => ?_)))))))))))))))))))))))))
      ·refine kM rfl rfl (kG rfl rfl (a_mov rfl (kG rfl rfl (a_mov rfl (kG rfl rfl (a_ia (j := u) rfl rfl (by omega) (by omega) (kG rfl rfl (a_ld rfl (.app .here) (sls_get (by omega) (by omega)) (kG rfl rfl (a_mov rfl (kG rfl rfl (a_ia (j := k) rfl rfl (by omega) (by omega) (kG rfl rfl (a_ldX (x := (wk ls (M + 1) u i k) (u) (k)) rfl (own_seg (by omega)) (by rw [rowT_len]; omega) (rowT_get (by omega)) (kG rfl rfl (a_neq rfl rfl (fun h13 => ?_) (fun h13 => ?_)))))))))))))))))
       ·refine kO rfl (a_pick_t rfl rfl rfl (i_nil (r_cond_t rfl (rI (kM rfl rfl (kM rfl rfl (kO rfl (a_ia (j := i) rfl rfl (by omega) (by omega) (kO rfl (a_ld rfl (.app .here) (sls_get (by omega) (by omega)) (kM rfl rfl (kM rfl rfl (kM rfl rfl (kO rfl (a_ia (j := i) rfl rfl (by omega) (by omega) (kO rfl (a_ld rfl (.app .here) (sls_get (by omega) (by omega)) (kM rfl rfl (kO rfl (a_ia (j := k) rfl rfl (by omega) (by omega) (kO rfl (a_ldX (x := (wk ls (M + 1) u i k) (i) (k)) rfl (own_seg (by omega)) (by rw [rowT_len]; omega) (rowT_get (by omega)) (kM rfl rfl (kM rfl rfl (kO rfl (a_ia (j := i) rfl rfl (by omega) (by omega) (kO rfl (a_ld rfl (.app .here) (sls_get (by omega) (by omega)) (kM rfl rfl (kO rfl (a_ia (j := u) rfl rfl (by omega) (by omega) (kO rfl (a_ldX (x := (wk ls (M + 1) u i k) (i) (u)) rfl (own_seg (by omega)) (by rw [rowT_len]; omega) (rowT_get (by omega)) (kM rfl rfl ?_))))))))))))))))))))))))))))))))))
        refine kM rfl rfl (kO rfl (a_ia (j := u) rfl rfl (by omega) (by omega) (kO rfl (a_ld rfl (.app .here) (sls_get (by omega) (by omega)) (kM rfl rfl (kO rfl (a_ia (j := k) rfl rfl (by omega) (by omega) (kO rfl (a_ldX (x := (wk ls (M + 1) u i k) (u) (k)) rfl (own_seg (by omega)) (by rw [rowT_len]; omega) (rowT_get (by omega)) (kO rfl (a_add rfl rfl (by omega) (kO rfl (a_min rfl (kO rfl (a_max rfl (kO rfl (a_ia (j := k) rfl rfl (by omega) (by omega) (kZ rfl (a_stI rfl rfl (upd_seg (by omega)) (by rw [rowT_len]; omega) (i_nil (block_n (then_n (rI (kO rfl (a_add rfl rfl (by omega) (kM rfl rfl (i_nil (then_n ?_))))))))))))))))))))))))))))
        exact ⟨rfl, _, _, _, (show M + 1 - (k + 1) < M + 1 - k by omega), (lc 4 rfl (lc 9 rfl (lc 10 rfl (lc 75 rfl (lc 76 rfl (lc 80 rfl (lc 81 rfl (lc 85 rfl (lc 86 rfl Less.nil))))))))), (List.Sublist.append (List.Sublist.refl _) (.cons_cons _ .slnil)), ⟨k + 1, rfl, (by first | (rw [wk_go (by omega) (by omega)]; done) | (rw [wk_no (by omega)]; done)), rfl, by omega⟩⟩
       ·refine kO rfl (a_pick_t rfl rfl rfl (i_nil (r_cond_f rfl (r_skip (block_n (then_n (rI (kO rfl (a_add rfl rfl (by omega) (kM rfl rfl (i_nil (then_n ?_))))))))))))
        exact ⟨rfl, _, _, _, (show M + 1 - (k + 1) < M + 1 - k by omega), (lc 4 rfl (lc 9 rfl (lc 10 rfl (lc 75 rfl (lc 76 rfl (lc 80 rfl (lc 81 rfl (lc 85 rfl (lc 86 rfl Less.nil))))))))), (List.Sublist.append (List.Sublist.refl _) (.cons_cons _ .slnil)), ⟨k + 1, rfl, (by first | (rw [wk_go (by omega) (by omega)]; done) | (rw [wk_no (by omega)]; done)), rfl, by omega⟩⟩
      ·refine kM rfl rfl (i_no rfl rfl (i_no rfl rfl (i_no rfl rfl (i_no rfl rfl (i_no rfl rfl (i_no rfl rfl (i_no rfl rfl (i_no rfl rfl (kO rfl (a_pick_f rfl rfl rfl (i_nil (r_cond_f rfl (r_skip (block_n (then_n (rI (kO rfl (a_add rfl rfl (by omega) (kM rfl rfl (i_nil (then_n ?_)))))))))))))))))))))
       exact ⟨rfl, _, _, _, (show M + 1 - (k + 1) < M + 1 - k by omega), (lc 4 rfl (lc 9 rfl (lc 10 rfl (lc 75 rfl (lc 76 rfl (lc 80 rfl (lc 81 rfl (lc 85 rfl (lc 86 rfl Less.nil))))))))), (List.Sublist.append (List.Sublist.refl _) (.cons_cons _ .slnil)), ⟨k + 1, rfl, (by first | (rw [wk_go (by omega) (by omega)]; done) | (rw [wk_no (by omega)]; done)), rfl, by omega⟩⟩
     ·refine i_nil (rQ (r_cond_f rfl (r_exit (then_e (then_e (block_hit (block_n (then_n (rI (kO rfl (a_add rfl rfl (by omega) (kM rfl rfl (i_nil (then_n ?_))))))))))))))
      exact ⟨rfl, _, _, _, (show M + 1 - (i + 1) < M + 1 - i by omega), (lc 4 rfl (lc 9 rfl (lc 75 rfl (lc 76 rfl (lc 80 rfl (lc 81 rfl Less.nil)))))), (List.Sublist.append (List.Sublist.refl _) (.cons_cons _ .slnil)), ⟨i + 1, rfl, (by rw [show k = M + 1 by omega]; rfl), rfl, by omega⟩⟩
    ·refine i_nil (rQ (r_cond_f rfl (r_exit (then_e (then_e (block_hit (block_n (then_n (rI (kO rfl (a_add rfl rfl (by omega) (kM rfl rfl (i_nil (then_n ?_))))))))))))))
     exact ⟨rfl, _, _, _, (show M + 1 - (u + 1) < M + 1 - u by omega), (lc 4 rfl (lc 75 rfl (lc 76 rfl Less.nil))), (List.Sublist.append (List.Sublist.refl _) (.cons_cons _ .slnil)), ⟨u + 1, rfl, (by rw [show i = M + 1 by omega]; rfl), rfl, by omega⟩⟩
   ·refine i_nil (rQ (r_cond_f rfl (r_exit (then_e (then_e (block_hit (then_n (rS (kM rfl rfl (kM rfl rfl (i_nil (r_ret ?_))))))))))))
    have huN : u = M + 1 := by omega
    subst huN
    exact end1A rfl (List.Sublist.append (List.Sublist.refl _) (.cons_cons _ .slnil)) ⟨_, B, rfl, rfl⟩

theorem rClose_s (n : Nat) (m : Int) (al : Option Addr) (cl : Nat) (ls : List (List Int)) (s : St) (hs : Wf s) (hn : 2251799813685248 ≤ n) (hL : RowsE s 4 al ls) : Spec Tryz.prog (tabK tabw) X (n + 1700) 6 [.agg ⟨[.int .i64 m, .slice al ls.length cl]⟩] s (fun v A => (¬ sysE m ls = 0 ∧ v = .tuple #[.slice none 0 0, .int .i64 (sysE m ls)] ∧ A = []) ∨ (sysE m ls = 0 ∧ Uns ls (m.toNat + 1) ∧ v = .tuple #[.slice none 0 0, .int .i64 23] ∧ A = []) ∨ (sysE m ls = 0 ∧ ¬ Uns ls (m.toNat + 1) ∧ ∃ b B, v = .tuple #[.slice (some ⟨b, 0, none⟩) (m.toNat + 1) (m.toNat + 1), .int .i64 0] ∧ A = seg B (m.toNat + 1) (wm ls (m.toNat + 1) (m.toNat + 1)) (m.toNat + 1) ++ [.row b 25 false (slsT B (m.toNat + 1) (m.toNat + 1) (m.toNat + 1))])) := by
 refine enter bw6_at rfl hs ?_
 unfold bw6
 have hlen := hL.len
 refine rS (kO rfl (a_box rfl rfl rfl (fun b1 => (kM rfl rfl (kM rfl rfl (i_nil (rS (kO rfl (a_lda rfl (by decide) .here rfl (kO rfl (a_callV rfl rfl (fun s1 h1 => rCheck_s _ _ _ _ _ s1 h1.wf (by omega) (hL.ext hs h1.2.1)) (kM rfl rfl (i_nil (rQ (rS (kM rfl rfl (kO rfl (a_neq rfl rfl (fun h2 => ?_) (fun h2 => ?_)))))))))))))))))))
 ·refine i_nil (r_cond_t rfl (rS (kM rfl rfl (kM rfl rfl (kM rfl rfl (i_nil (r_ret (then_r ?_))))))))
  exact end2 rfl rfl (.inl ⟨by omega, rfl, rfl⟩)
 ·have hsys : sysE m ls = 0 := by omega
  obtain ⟨hm0, hM, h400, hlm⟩ := sysE_ok hsys
  obtain ⟨M, rfl⟩ : ∃ q : Nat, m = (q : Int) := ⟨m.toNat, by omega⟩
  have hM : M ≤ 64 := by omega
  have h400 : ls.length ≤ 400 := by omega
  refine i_nil (r_cond_f rfl (r_skip (then_n (rS (kO rfl (a_lda rfl (by decide) .here rfl (kO rfl (a_call rfl rfl (fun s1 h1 => rWays_s _ M al cl ls s1 h1.wf (by omega) (hL.ext hs h1.2.1) hM hlm) (fun v1 A1 q1 => ?_)))))))))
  obtain ⟨bw3, Bw4, rfl, rfl⟩ := q1
  rw [List.append_assoc, List.singleton_append]
  refine kM rfl rfl (i_nil (rQ (rS (kM rfl rfl (kG rfl rfl (a_inl rfl rfl bw24_at rfl ?_))))))
  unfold bw24
  refine rS (kM rfl rfl (i_nil (rQ (rS (kM rfl rfl (kO rfl (a_len rfl (kM rfl rfl (i_nil (r_block ?_))))))))))
  refine r_loop (fun j e A => ∃ (i : Nat), e = [(0, .slice (some ⟨bw3, 0, none⟩) (M + 1) (M + 1)), (4, .slice (some ⟨bw3, 0, none⟩) (M + 1) (M + 1)), (5, .int .i64 ((M + 1 : Nat) : Int)), (6, .int .i64 (i : Int))] ∧ A = (seg Bw4 (M + 1) (wm ls (M + 1) (M + 1)) (M + 1) ++ (.row bw3 25 false (slsT Bw4 (M + 1) (M + 1) (M + 1)) :: (.row b1 24 false ([.int .i64 (M : Int), .slice al ls.length cl]) :: []))) ∧ j = M + 1 - i ∧ i ≤ M + 1 ∧ ∀ a, a < i → 0 ≤ (wm ls (M + 1) (M + 1)) a a) 100 0 281474976710656 ?_ (j := _) (env2 := _) (A2 := _) ?_ ?_ ?_ ?_ ⟨0, rfl, rfl, rfl, Nat.zero_le _, (fun a ha => absurd ha (Nat.not_lt_zero a))⟩
  rotate_left
  ·omega
  ·omega
  ·exact (lc 0 rfl (lc 4 rfl (lc 5 rfl (lc 6 rfl Less.nil))))
  ·exact (List.Sublist.append (List.Sublist.refl _) (.cons_cons _ (.cons_cons _ .slnil)))
  rintro n hn j _ _ ⟨i, rfl, rfl, rfl, hi, hsd⟩
  refine rS (kO rfl (a_lss rfl rfl (fun h5 => ?_) (fun h5 => ?_)))
  ·refine i_nil (rQ (r_cond_t rfl (r_skip (then_n (rQ (r_block (rS (kM rfl rfl (kM rfl rfl (i_nil (rS (kM rfl rfl (kM rfl rfl (kO rfl (a_ia (j := i) rfl rfl (by omega) (by omega) (kO rfl (a_ld rfl (.app .here) (sls_get (by omega) (by omega)) (kM rfl rfl (kO rfl (a_ia (j := i) rfl rfl (by omega) (by omega) (kO rfl (a_ldX (x := (wm ls (M + 1) (M + 1)) (i) (i)) rfl (own_seg (by omega)) (by rw [rowT_len]; omega) (rowT_get (by omega)) (kO rfl (a_lss rfl rfl (fun h6 => ?_) (fun h6 => ?_)))))))))))))))))))))))))
   ·refine i_nil (r_cond_t rfl (rS (kM rfl rfl (i_nil (r_ret (block_r (then_r (then_r (block_r (then_r (endD1 rfl .nil (kO rfl (a_not rfl (i_nil (r_cond_t rfl (rS (kM rfl rfl (kM rfl rfl (i_nil (r_ret (then_r ?_)))))))))))))))))))))
    exact end2 rfl rfl (.inr (.inl ⟨hsys, Classical.byContradiction (fun q => by have := (wm_snd hlm h400 hM).2 q i (by omega); omega), rfl, rfl⟩))
   ·refine i_nil (r_cond_f rfl (r_skip (block_n (then_n (rI (kO rfl (a_add rfl rfl (by omega) (kM rfl rfl (i_nil (then_n ?_))))))))))
    exact ⟨rfl, _, _, _, (show M + 1 - (i + 1) < M + 1 - i by omega), (lc 0 rfl (lc 4 rfl (lc 5 rfl (lc 6 rfl Less.nil)))), (List.Sublist.append (List.Sublist.refl _) (.cons_cons _ (.cons_cons _ .slnil))), ⟨i + 1, rfl, rfl, rfl, by omega, (snd_step hsd (by assumption))⟩⟩
  ·refine i_nil (rQ (r_cond_f rfl (r_exit (then_e (then_e (block_hit (then_n (rS (kM rfl rfl (i_nil (r_ret (endD1 rfl .nil (kO rfl (a_not rfl (i_nil (r_cond_f rfl (r_skip (then_n (rS (kM rfl rfl (kM rfl rfl (kM rfl rfl (i_nil (r_ret ?_))))))))))))))))))))))))
   exact end2A rfl rfl (List.Sublist.append (List.Sublist.refl _) (.cons_cons _ (.cons _ .slnil))) (.inr (.inr ⟨hsys, (wm_snd hlm h400 hM).1 (fun a ha => hsd a (by omega)), _, _, rfl, rfl⟩))

end
end Ev
end Go.Proofs.YtcpebhdbpkhhiaaGreat
