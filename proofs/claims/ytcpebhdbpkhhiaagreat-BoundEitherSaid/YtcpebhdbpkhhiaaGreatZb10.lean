import Derived.Test.YtcpebhdbpkhhiaaGreatZb09
import Derived.Test.YtcpebhdbpkhhiaaGreatZb05
import Derived.Test.YtcpebhdbpkhhiaaGreatZb04
import Derived.Test.YtcpebhdbpkhhiaaGreatProg
import Derived.KernelRfl
set_option linter.unusedVariables false
set_option linter.unusedSimpArgs false
/- The law BoundEither, by the evaluator. -/
namespace Go.Proofs.YtcpebhdbpkhhiaaGreat
open Go Go.RowKit
namespace Ev
theorem kp_all {ls : List (List Int)} {M : Nat} {x : List Int} (hl : lmB (M : Int) ls = true) (h : kpB x ls = true) : ∀ i, i < ls.length → x.getD (lb ls i) 0 ≤ x.getD (la ls i) 0 + lw ls i := by
  have key : ∀ k, k ≤ ls.length → kpB x (ls.drop k) = true := by
    intro k
    induction k with
    | zero => intro _; rw [List.drop_zero]; exact h
    | succ k ih =>
      intro hk
      have h1 := ih (by omega)
      obtain ⟨y3, e⟩ := (lim_of hl (show k < ls.length by omega)).row
      rw [kp_step e, Bool.and_eq_true] at h1
      exact h1.2
  intro i hi
  have h1 := key i (by omega)
  obtain ⟨y3, e⟩ := (lim_of hl hi).row
  rw [kp_step e, Bool.and_eq_true, Int.toNat_natCast, Int.toNat_natCast] at h1
  have h2 := of_decide_eq_true h1.1
  omega
theorem pt_kp {m : Int} {ls : List (List Int)} {x : List Int} (h : ptB m ls x = true) : kpB x ls = true := by
  unfold ptB at h
  rw [Bool.and_eq_true] at h
  exact h.2
/-- Where a chain contradicts itself, no point is accepted. -/
theorem no_pt {ls : List (List Int)} {M k a : Nat} {c : Nat → Nat × Nat × Nat × Int} {x : List Int} (hl : lmB (M : Int) ls = true) (hp : itr c a (k + 1) = a) (hch : ∀ m, (c (itr c a m)).1 < ls.length ∧ lb ls (c (itr c a m)).1 = itr c a m ∧ la ls (c (itr c a m)).1 = itr c a (m + 1)) (hn : sumC ls c a (k + 1) < 0) : ptB (M : Int) ls x = false := by
  cases q : ptB (M : Int) ls x with
  | false => rfl
  | true =>
    have h1 := kp_all hl (pt_kp q)
    have h2 := pt_chain (x := fun a => x.getD a 0) h1 hch (k + 1)
    rw [hp] at h2
    omega
theorem sb_sys {m : Int} {ls : List (List Int)} (h : sysE m ls = 0) : SB ls (m.toNat + 1) := by
  obtain ⟨h1, h2, h3, h4⟩ := sysE_ok h
  exact sb_of (M := m.toNat) (by rw [Int.toNat_of_nonneg h1]; exact h4) (by omega) (by omega)
theorem chn_fit {ls : List (List Int)} {w : List Int} (h : Chn ls w) (h4 : ls.length ≤ 400) : ∀ z ∈ w, -9223372036854775808 ≤ z ∧ z < 9223372036854775808 := fun z hz => by
  obtain ⟨i, hi, rfl⟩ := List.getElem_of_mem hz
  obtain ⟨j, h1, h2⟩ := h.ix i hi
  rw [List.getD_eq_getElem?_getD, List.getElem?_eq_getElem hi] at h1
  have h3 : w[i] = (j : Int) := h1
  omega
theorem nb_fit {x : List Int} {c : Int} (h : Nb x c) (hc : c ≤ 1000000000) : ∀ z ∈ x, -9223372036854775808 ≤ z ∧ z < 9223372036854775808 := fun z hz => by
  obtain ⟨i, hi, rfl⟩ := List.getElem_of_mem hz
  have h1 := h i hi
  rw [List.getD_eq_getElem?_getD, List.getElem?_eq_getElem hi] at h1
  have h3 : -c ≤ x[i] ∧ x[i] ≤ c := h1
  omega

section
variable {X : FuncId → List Value → St → (Value → St → Bool) → Bool}
theorem CheckPoint_n (n : Nat) (m : Int) (al : Option Addr) (cl : Nat) (ls : List (List Int)) (ax : Option Addr) (cx nx : Nat) (x : List Int) (s : St) (hs : Wf s) (hn : 844424930131968 ≤ n) (hL : RowsE s 4 al ls) (hnx : nx = x.length) (hX : IntsE s ax x) (hsys : sysE m ls = 0) (hp : ptB m ls x = true) : Spec Tryz.prog (tabK tabw) X (n + 1200) 15 [.agg ⟨[.int .i64 m, .slice al ls.length cl]⟩, .slice ax nx cx] s (fun v A => v = .int .i64 0 ∧ A = []) := by
  subst hnx
  have h := CheckPoint_s n m al cl ls ax cx x s hs hn hL hX (X := X)
  rw [if_pos hsys, if_pos hp] at h
  exact h
theorem CheckPoint_0 (n : Nat) (m : Int) (al : Option Addr) (cl : Nat) (ls : List (List Int)) (ax : Option Addr) (cx : Nat) (x : List Int) (s : St) (hs : Wf s) (hn : 844424930131968 ≤ n) (hL : RowsE s 4 al ls) (hX : IntsE s ax x) (hsys : sysE m ls = 0) (hp : ptB m ls x = false) : Spec Tryz.prog (tabK tabw) X (n + 1200) 15 [.agg ⟨[.int .i64 m, .slice al ls.length cl]⟩, .slice ax x.length cx] s (fun v A => v = .int .i64 25 ∧ A = []) := by
  have h := CheckPoint_s n m al cl ls ax cx x s hs hn hL hX (X := X)
  rw [if_pos hsys, if_neg (by rw [hp]; decide)] at h
  exact h
theorem rCheckPoint_n (n : Nat) (m : Int) (al : Option Addr) (cl : Nat) (ls : List (List Int)) (ax : Option Addr) (cx nx : Nat) (x : List Int) (s : St) (hs : Wf s) (hn : 1125899906842624 ≤ n) (hL : RowsE s 4 al ls) (hnx : nx = x.length) (hX : IntsE s ax x) (hsys : sysE m ls = 0) (hp : ptB m ls x = true) : Spec Tryz.prog (tabK tabw) X (n + 1300) 16 [.agg ⟨[.int .i64 m, .slice al ls.length cl]⟩, .slice ax nx cx] s (fun v A => v = .int .i64 0 ∧ A = []) := by
  subst hnx
  have h := rCheckPoint_s n m al cl ls ax cx x s hs hn hL hX (X := X)
  rw [if_pos hsys, if_pos hp] at h
  exact h
theorem CheckCycle_n (n : Nat) (M : Nat) (al : Option Addr) (cl : Nat) (ls : List (List Int)) (ax : Option Addr) (cx nx : Nat) (x : List Int) (s : St) (hs : Wf s) (hn : 1688849860263936 ≤ n) (hL : RowsE s 4 al ls) (hnx : nx = x.length) (hX : IntsE s ax x) (hsys : sysE (M : Int) ls = 0) (hC : Chn ls x) : Spec Tryz.prog (tabK tabw) X (n + 2500) 13 [.agg ⟨[.int .i64 (M : Int), .slice al ls.length cl]⟩, .slice ax nx cx] s (fun v A => v = .int .i64 0 ∧ A = []) := by
  subst hnx
  exact CheckCycle_s n M al cl ls ax cx x s hs hn hL hX hsys hC (X := X)

set_option maxRecDepth 100000 in
theorem BoundEither_s (n : Nat) (m : Int) (al : Option Addr) (cl : Nat) (ls : List (List Int)) (ap : Option Addr) (cpk : Nat) (ps : List Int) (ax : Option Addr) (cx : Nat) (x : List Int) (s : St) (hs : Wf s) (hn : 5629499534213120 ≤ n) (hL : RowsE s 4 al ls) (hP : IntsE s ap ps) (hX : IntsE s ax x) : Spec Tryz.prog (tabK tabw) (knownX 17) (n + 9500) 4 [.agg ⟨[.int .i64 m, .slice al ls.length cl]⟩, .slice ap ps.length cpk, .slice ax x.length cx] s (fun v A => v = .bool true ∧ A = []) := by
 refine enter bw4_at rfl hs ?_
 unfold bw4
 have hlen := hL.len
 have hlenP := hP.len
 have hlenX := hX.len
 refine rS (kO rfl (a_box rfl rfl rfl (fun b1 => (kM rfl rfl (i_nil (rS (kO rfl (a_lda rfl (by decide) .here rfl (kM rfl rfl (kO rfl (a_call rfl rfl (fun s1 h1 => Point_s _ m al cl ls ap cpk ps s1 h1.wf (by omega) (hL.ext hs h1.2.1) (hP.ext hs h1.2.1)) (fun v1 A1 q1 => ?_))))))))))))
 rcases q1 with ⟨hp, rfl, rfl⟩ | ⟨hp, hpu, rfl, rfl⟩ | ⟨hp, hpu, q1⟩
 ·have hp0 := hp
  refine kM rfl rfl (kO rfl (a_ext rfl rfl (kO rfl (a_ext rfl rfl (kM rfl rfl (kM rfl rfl (i_nil (rS (kO rfl (a_lda rfl (by decide) .here rfl (kO rfl (a_call rfl rfl (fun s1 h1 => Cycle_s _ _ al cl ls s1 h1.wf (by omega) (hL.ext hs h1.2.1) sb_sys) (fun v1 A1 q1 => ?_)))))))))))))
  rcases q1 with ⟨hy0, rfl, rfl⟩ | ⟨hy0, hyu, rfl, rfl⟩ | ⟨hy0, hyu, q1⟩
  ·refine kM rfl rfl (kO rfl (a_ext rfl rfl (kO rfl (a_ext rfl rfl (kM rfl rfl (kM rfl rfl (i_nil (rQ (rS (kO rfl (a_lda rfl (by decide) .here rfl (kO rfl (a_callV rfl rfl (fun s1 h1 => rCheck_s _ _ _ _ _ s1 h1.wf (by omega) (hL.ext hs h1.2.1)) (kO rfl (a_neq rfl rfl (fun h5 => ?_) (fun h5 => ?_))))))))))))))))
   ·refine i_nil (r_cond_t rfl (rS (kM rfl rfl (kO rfl (a_lda rfl (by decide) .here rfl (kO rfl (a_callV rfl rfl (fun s1 h1 => rCheck_s _ _ _ _ _ s1 h1.wf (by omega) (hL.ext hs h1.2.1)) (kO rfl (a_eql rfl rfl (fun h6 => ?_) (fun h6 => ?_))))))))))
    ·refine kM rfl rfl (kG rfl rfl (a_mov rfl (kG rfl rfl (a_mov rfl (kG rfl rfl (a_eql rfl rfl (fun h7 => ?_) (fun h7 => ?_)))))))
     ·refine kO rfl (a_pick_t rfl rfl rfl (kM rfl rfl (kG rfl rfl (a_callV rfl rfl (fun s1 h1 => known_s _ s1 h1.wf) (kO rfl (a_pick_t rfl rfl rfl (kM rfl rfl (i_nil (r_ret (then_r ?_))))))))))
      exact end1 rfl ⟨rfl, rfl⟩
     ·exact absurd rfl h7
    ·exact absurd rfl h6
   ·exfalso; omega
  ·exact absurd hy0 hp0
  ·exact absurd hy0 hp0
 ·have hsys := hp
  obtain ⟨hm0, hM, h400, hlm⟩ := sysE_ok hsys
  obtain ⟨M, rfl⟩ : ∃ q : Nat, m = (q : Int) := ⟨m.toNat, by omega⟩
  have hM : M ≤ 64 := by omega
  have h400 : ls.length ≤ 400 := by omega
  change Uns ls (M + 1) at hpu
  refine kM rfl rfl (kO rfl (a_ext rfl rfl (kO rfl (a_ext rfl rfl (kM rfl rfl (kM rfl rfl (i_nil (rS (kO rfl (a_lda rfl (by decide) .here rfl (kO rfl (a_call rfl rfl (fun s1 h1 => Cycle_s _ _ al cl ls s1 h1.wf (by omega) (hL.ext hs h1.2.1) sb_sys) (fun v1 A1 q1 => ?_)))))))))))))
  rcases q1 with ⟨hy0, rfl, rfl⟩ | ⟨hy0, hyu, rfl, rfl⟩ | ⟨hy0, hyu, q1⟩
  ·exact absurd hsys hy0
  ·exact absurd hpu hyu
  ·obtain ⟨bc8, kc, cpc, opc, wc, l0, rfl, rfl, hwl, hkm, hl0, hle, hitr, hwc⟩ := q1
   change kc + 1 ≤ M + 1 at hkm
   obtain ⟨hch, hng⟩ := uns_neg hlm h400 hM hl0 hle hitr
   have hC : Chn ls wc := chn_of hwl (by omega) hwc hitr hch hng
   have hno := no_pt (x := x) hlm hitr hch hng
   have hfit := chn_fit hC h400
   refine kM rfl rfl (kO rfl (a_ext rfl rfl (kO rfl (a_ext rfl rfl (kM rfl rfl (kM rfl rfl (i_nil (rQ (rS (kO rfl (a_lda rfl (by decide) (.next .here) rfl (kO rfl (a_callV rfl rfl (fun s1 h1 => rCheck_s _ _ _ _ _ s1 h1.wf (by omega) (hL.ext hs h1.2.1)) (kO rfl (a_neq rfl rfl (fun h9 => ?_) (fun h9 => ?_))))))))))))))))
   ·exfalso; omega
   ·refine i_nil (r_cond_f rfl (r_skip (then_n (rQ (rS (kM rfl rfl (kO rfl (a_neq rfl rfl (fun h => absurd h (by decide)) (fun _ => (kM rfl rfl (kG rfl rfl (a_mov rfl (kG rfl rfl (a_neq rfl rfl (fun _ => (kG rfl rfl (a_mov rfl (kG rfl rfl (a_mov rfl (kG rfl rfl (a_neq rfl rfl (fun h => absurd h (by decide)) (fun _ => (kG rfl rfl (a_pick_t rfl rfl rfl (kO rfl (a_pick_f rfl rfl rfl (i_nil (r_cond_f rfl (r_skip (then_n (rQ (rS (kM rfl rfl (kO rfl (a_eql rfl rfl (fun h => absurd h (by decide)) (fun _ => ?_)))))))))))))))))))))) (fun h => absurd h (by decide))))))))))))))))
    refine i_nil (r_cond_f rfl (r_skip (then_n (rS (kM rfl rfl (kO rfl (a_len rfl (kO rfl (a_gtr rfl rfl (fun h14 => ?_) (fun h14 => ?_))))))))))
    ·refine kM rfl rfl (kG rfl rfl (a_mov rfl (kG rfl rfl (a_len rfl (kG rfl rfl (a_fa rfl (kG rfl rfl (a_ld rfl (.next .here) rfl (kG rfl rfl (a_add rfl rfl (by omega) (kG rfl rfl (a_leq rfl rfl (fun h15 => ?_) (fun h15 => ?_)))))))))))))
     ·refine kO rfl (a_pick_t rfl rfl rfl (kM rfl rfl (kG rfl rfl (a_lda rfl (by decide) (.next .here) rfl (kG rfl rfl (a_mov rfl (kG rfl rfl (a_callV rfl rfl (fun s1 h1 => CheckCycle_n _ M al cl ls _ _ _ _ s1 h1.wf (by omega) (hL.ext hs h1.2.1) hwl.symm (IntsE.own (h1.own .here) hfit (by omega)) hsys hC) (kG rfl rfl (a_eql rfl rfl (fun _ => (kO rfl (a_pick_t rfl rfl rfl (kM rfl rfl (kG rfl rfl (a_lda rfl (by decide) (.next .here) rfl (kG rfl rfl (a_mov rfl (kG rfl rfl (a_callV rfl rfl (fun s1 h1 => CheckPoint_0 _ _ al cl ls ax cx x s1 h1.wf (by omega) (hL.ext hs h1.2.1) (hX.ext hs h1.2.1) hsys hno) (kG rfl rfl (a_eql rfl rfl (fun _ => (kO rfl (a_pick_t rfl rfl rfl (kM rfl rfl (kG rfl rfl (a_callV rfl rfl (fun s1 h1 => known_s _ s1 h1.wf) (kO rfl (a_pick_t rfl rfl rfl (kM rfl rfl (i_nil (r_ret ?_))))))))))) (fun h => absurd h (by decide)))))))))))))) (fun h => absurd h (by decide))))))))))))
      exact end1 rfl ⟨rfl, rfl⟩
     ·exfalso; omega
    ·exfalso; omega
 ·obtain ⟨bp2, opp, cpp, Dp3, rfl, rfl, hDT⟩ := q1
  have hsys := hp
  obtain ⟨hm0, hM, h400, hlm⟩ := sysE_ok hsys
  obtain ⟨M, rfl⟩ : ∃ q : Nat, m = (q : Int) := ⟨m.toNat, by omega⟩
  have hM : M ≤ 64 := by omega
  have h400 : ls.length ≤ 400 := by omega
  change ¬ Uns ls (M + 1) at hpu
  change DT ls (M + 1) Dp3 at hDT
  rw [show ((M : Int).toNat) = M from rfl]
  obtain ⟨y, hy, hyb⟩ := set_pt hlm h400 hM hpu
  have hS := hDT.sm hy hyb
  have hpt := ptL_pt (ps := ps) hlm hDT hS hM
  have hfit := nb_fit (ptL_ok (ps := ps) hDT hS hM (Nat.le_refl M)).2.1 (by omega)
  have hln : (ptL Dp3 ps M).length = M + 1 := ptL_len
  refine kM rfl rfl (kO rfl (a_ext rfl rfl (kO rfl (a_ext rfl rfl (kM rfl rfl (kM rfl rfl (i_nil (rS (kO rfl (a_lda rfl (by decide) (.next .here) rfl (kO rfl (a_call rfl rfl (fun s1 h1 => Cycle_s _ _ al cl ls s1 h1.wf (by omega) (hL.ext hs h1.2.1) sb_sys) (fun v1 A1 q1 => ?_)))))))))))))
  rcases q1 with ⟨hy0, rfl, rfl⟩ | ⟨hy0, hyu, rfl, rfl⟩ | ⟨hy0, hyu, q1⟩
  ·exact absurd hsys hy0
  ·have hcy := hyu
   refine kM rfl rfl (kO rfl (a_ext rfl rfl (kO rfl (a_ext rfl rfl (kM rfl rfl (kM rfl rfl (i_nil (rQ (rS (kO rfl (a_lda rfl (by decide) (.next .here) rfl (kO rfl (a_callV rfl rfl (fun s1 h1 => rCheck_s _ _ _ _ _ s1 h1.wf (by omega) (hL.ext hs h1.2.1)) (kO rfl (a_neq rfl rfl (fun h19 => ?_) (fun h19 => ?_))))))))))))))))
   ·exfalso; omega
   ·refine i_nil (r_cond_f rfl (r_skip (then_n (rQ (rS (kM rfl rfl (kO rfl (a_neq rfl rfl (fun h => absurd h (by decide)) (fun _ => (kM rfl rfl (kG rfl rfl (a_mov rfl (kG rfl rfl (a_neq rfl rfl (fun h => absurd h (by decide)) (fun _ => (kG rfl rfl (a_mov rfl (i_no rfl rfl (i_no rfl rfl (kG rfl rfl (a_pick_f rfl rfl rfl (kO rfl (a_pick_f rfl rfl rfl (i_nil (r_cond_f rfl (r_skip (then_n (rQ (rS (kM rfl rfl (kO rfl (a_eql rfl rfl (fun _ => ?_) (fun h => absurd h (by decide))))))))))))))))))))))))))))))))))
    refine i_nil (r_cond_t rfl (rS (kM rfl rfl (kO rfl (a_len0 rfl (kO rfl (a_eql rfl rfl (fun _ => (kM rfl rfl (kG rfl rfl (a_lda rfl (by decide) (.next .here) rfl (kG rfl rfl (a_mov rfl (kG rfl rfl (a_callV rfl rfl (fun s1 h1 => CheckPoint_n _ _ al cl ls _ _ _ _ s1 h1.wf (by omega) (hL.ext hs h1.2.1) hln.symm (IntsE.own (h1.own .here) hfit (by omega)) hsys hpt) (kG rfl rfl (a_eql rfl rfl (fun _ => (kO rfl (a_pick_t rfl rfl rfl (kM rfl rfl (kG rfl rfl (a_lda rfl (by decide) (.next .here) rfl (kG rfl rfl (a_mov rfl (kG rfl rfl (a_callV rfl rfl (fun s1 h1 => rCheckPoint_n _ _ al cl ls _ _ _ _ s1 h1.wf (by omega) (hL.ext hs h1.2.1) hln.symm (IntsE.own (h1.own .here) hfit (by omega)) hsys hpt) (kG rfl rfl (a_eql rfl rfl (fun _ => (kO rfl (a_pick_t rfl rfl rfl (kM rfl rfl (kG rfl rfl (a_callV rfl rfl (fun s1 h1 => known_s _ s1 h1.wf) (kO rfl (a_pick_t rfl rfl rfl (kM rfl rfl (i_nil (r_ret ?_))))))))))) (fun h => absurd h (by decide)))))))))))))) (fun h => absurd h (by decide)))))))))))) (fun h => absurd h (by decide)))))))))
    refine then_r ?_
    exact end1 rfl ⟨rfl, rfl⟩
  ·exact absurd hyu hpu

end
end Ev
end Go.Proofs.YtcpebhdbpkhhiaaGreat

/- What a system, a row of ints, and an int, let in. -/
namespace Go.Proofs.YtcpebhdbpkhhiaaGreat.Ev
open Go Go.RowKit Go.ChangeShapes Go.WideShapes Go.ChangeAt Go.Joins
set_option linter.unusedVariables false
noncomputable section
theorem ints_of {s : St} {a : Option Addr} {rs : List (List Int)} (h : RowsE s 1 a rs) : IntsE s a (rs.map fun r => r.getD 0 0) := by
  have hr : ∀ r ∈ rs, r = [r.getD 0 0] := fun r hr => by
    have := h.width r hr
    match r, this with
    | [z], _ => rfl
  refine ⟨h.spot, fun hn => h.addr (by rintro rfl; exact hn rfl), fun b o ha => ?_, fun x hx => ?_, by rw [List.length_map]; exact h.len⟩
  · have key : ∀ (l : List (List Int)) (k : Nat), (∀ i r, l[i]? = some r → Ats s b (o + (k + i) * 1) (r.map (.int .i64))) → (∀ r ∈ l, r = [r.getD 0 0]) → Ats s b (o + k) (ints (l.map fun r => r.getD 0 0)) := by
      intro l
      induction l with
      | nil => intro k _ _; exact trivial
      | cons r l ih =>
        intro k h1 h2
        have q := h1 0 r rfl
        rw [h2 r (by simp)] at q
        refine ⟨?_, ?_⟩
        · have := q.1; simpa using this
        · have := ih (k + 1) (fun i r' hr' => by have := h1 (i + 1) r' (by simpa using hr'); rwa [show k + (i + 1) = k + 1 + i by omega] at this) (fun r' hr' => h2 r' (by simp [hr']))
          rwa [show o + (k + 1) = o + k + 1 by omega] at this
    have := key rs 0 (fun i r hr' => by rw [Nat.zero_add]; exact h.cells b o ha i r hr') hr
    simpa using this
  · obtain ⟨r, h1, rfl⟩ := List.mem_map.1 hx
    have h2 := h.fit r h1
    rw [hr r h1] at h2 ⊢
    exact h2 _ (by simp)
set_option maxRecDepth 100000 in
theorem open_int {H : Type} {enc : TypeId × Value → H} {W : World} {r : Reach} {b0 : Nat} {v : Value} {d : DataW H} {p : List MemPlace} (h : DataW.Trod enc Tryz.prog W 0 (fun _ => true) true 3 v d p) (hv : Value.okWide Tryz.prog W r b0 3 v) : ∃ z, v = .int .i64 z := by
  obtain ⟨fuel, hf⟩ := h
  have hk : v.cells.toList = [v] := by
    simp only [Value.okWide, Tryz.underlying3] at hv
    unfold Cell.okWide at hv
    rw [Tryz.underlying3] at hv
    unfold Cell.ok at hv
    rw [Tryz.underlying3] at hv
    cases v <;> first | rfl | exact absurd hv id
  rw [hk] at hf
  obtain ⟨l, q, ql, _⟩ := intCells_int (P := Tryz.prog) Tryz.underlying3 hf
  match l, ql with
  | [z], _ => exact ⟨z, by simpa using q⟩
set_option maxRecDepth 100000 in
theorem open_islice {H : Type} {enc : TypeId × Value → H} {W : World} {r : Reach} {b0 : Nat} {v : Value} {d : DataW H} {p : List MemPlace} (hv : Value.okWide Tryz.prog W r b0 25 v) (h : DataW.Trod enc Tryz.prog W 0 (fun _ => true) true 25 v d p) (hz : ∀ x ∈ DataW.weights Tryz.prog 25 d, x ≤ reachBytes) :
    ∃ a n c r, v = .slice a n c ∧ r.length = n ∧ NiceS W a n c ∧ RowsE (wst W) 1 a r := by
  obtain ⟨fuel, hf⟩ := h
  simp only [Value.okWide, Tryz.underlying25] at hv
  obtain ⟨a, n, c, rfl, hN⟩ := cell_niceS Tryz.underlying25 hv
  obtain ⟨rs, f, k, _⟩ := rowsW (w := 1) (bytes := 8) Tryz.underlying25 (by kernel_rfl) (by decide) (by kernel_rfl) (by decide) (intCells_int Tryz.underlying3) hN (by simpa [Value.cells] using hf) hz
  exact ⟨a, n, c, rs, rfl, f, hN, k⟩
theorem int_limit {H : Type} {enc : TypeId × Value → H} {W : World} : IntCells H Tryz.prog enc W 55 4 :=
  intCells_struct (ws := [1, 1, 1, 1]) Tryz.underlying55 (by kernel_rfl) (fun i f hf => by
    match i, hf with
    | 0, hf => cases hf; exact ⟨1, rfl, by kernel_rfl, rfl, intCells_int Tryz.underlying3⟩
    | 1, hf => cases hf; exact ⟨1, rfl, by kernel_rfl, rfl, intCells_int Tryz.underlying3⟩
    | 2, hf => cases hf; exact ⟨1, rfl, by kernel_rfl, rfl, intCells_int Tryz.underlying3⟩
    | 3, hf => cases hf; exact ⟨1, rfl, by kernel_rfl, rfl, intCells_int Tryz.underlying3⟩
    | n + 4, hf => simp at hf) rfl
set_option maxRecDepth 100000 in
set_option maxHeartbeats 2000000 in
theorem open_system {H : Type} {enc : TypeId × Value → H} {W : World} {r : Reach} {b0 : Nat} {v : Value} {d : DataW H} {p : List MemPlace} (hv : Value.okWide Tryz.prog W r b0 24 v) (h : DataW.Trod enc Tryz.prog W 0 (fun _ => true) true 24 v d p) (hz : ∀ x ∈ DataW.weights Tryz.prog 24 d, x ≤ reachBytes) :
    ∃ z0 a1 n1 c1 r1, v = .agg #[.int .i64 z0, .slice a1 n1 c1] ∧ r1.length = n1 ∧ NiceS W a1 n1 c1 ∧ RowsE (wst W) 4 a1 r1 := by
  obtain ⟨fuel, hf⟩ := h
  simp only [Value.okWide, Tryz.underlying24] at hv
  obtain ⟨cs, rfl, hsz, ts, hts, _, hc⟩ := hv
  have e2 : Tryz.prog.cellTypes Tryz.prog.depth 24 = some [3, 22] := by kernel_rfl
  rw [e2] at hts
  cases hts
  have e3 : Tryz.prog.cellsOf 24 = 2 := by kernel_rfl
  rw [e3] at hsz
  obtain ⟨l⟩ := cs
  match l, hsz with
  | [x0, x1], _ =>
    have u0 : ∃ t, [3, 22][0]? = some t ∧ Cell.okWide Tryz.prog W r b0 t x0 := by
      obtain ⟨t, h1, h2⟩ := hc 0 x0 rfl
      exact ⟨t, h1, h2⟩
    obtain ⟨t0, e0, w0⟩ := u0
    have : t0 = 3 := by simpa using e0.symm
    subst this
    have u1 : ∃ t, [3, 22][1]? = some t ∧ Cell.okWide Tryz.prog W r b0 t x1 := by
      obtain ⟨t, h1, h2⟩ := hc 1 x1 rfl
      exact ⟨t, h1, h2⟩
    obtain ⟨t1, e1, w1⟩ := u1
    have : t1 = 22 := by simpa using e1.symm
    subst this
    obtain ⟨xs, m, _, hx, _, hlen, hfs⟩ := DataW.trod_struct Tryz.underlying24 hf
    have hd : d = .agg (xs.map (·.1)) := by simpa using congrArg Prod.fst hx
    have g_0 : ∃ y, xs[0]? = some y ∧ DataW.trod enc Tryz.prog W 0 (fun _ => true) true m 3 [x0] = some y := by
      have hy : ∃ y, xs[0]? = some y := ⟨xs[0]'(by rw [hlen]; decide), List.getElem?_eq_getElem _⟩
      obtain ⟨y, hy⟩ := hy
      have h4 := hfs 0 _ rfl
      rw [hy] at h4
      have e4 : Tryz.prog.cellsOf 3 = 1 := by kernel_rfl
      exact ⟨y, hy, by simpa [e4, Value.cells] using h4⟩
    obtain ⟨⟨d_0, p_0⟩, gy_0, g_0⟩ := g_0
    obtain ⟨l_0, q_0, ql_0, _⟩ := intCells_int (P := Tryz.prog) Tryz.underlying3 g_0
    obtain ⟨z0, rfl⟩ : ∃ z, l_0 = [z] := by
      match l_0, ql_0 with
      | [z], _ => exact ⟨z, rfl⟩
    simp at q_0
    subst q_0
    have g_1 : ∃ y, xs[1]? = some y ∧ DataW.trod enc Tryz.prog W 0 (fun _ => true) true m 22 [x1] = some y := by
      have hy : ∃ y, xs[1]? = some y := ⟨xs[1]'(by rw [hlen]; decide), List.getElem?_eq_getElem _⟩
      obtain ⟨y, hy⟩ := hy
      have h4 := hfs 1 _ rfl
      rw [hy] at h4
      have e4 : Tryz.prog.cellsOf 22 = 1 := by kernel_rfl
      exact ⟨y, hy, by simpa [e4, Value.cells] using h4⟩
    obtain ⟨⟨d_1, p_1⟩, gy_1, g_1⟩ := g_1
    obtain ⟨a1, n1, c1, rfl, hN1⟩ := cell_niceS Tryz.underlying22 w1
    have hz_1 : ∀ x ∈ DataW.weights Tryz.prog 22 d_1, x ≤ reachBytes := fun x hx' => hz x (by
      rw [hd]
      simp only [DataW.weights, Tryz.underlying24]
      exact DataW.weights_mem_each (j := 1) (t := 22) rfl (by rw [List.getElem?_map, gy_1]; rfl) x hx')
    obtain ⟨r1, f1, k1, _⟩ := rowsW (w := 4) (bytes := 32) Tryz.underlying22 (by kernel_rfl) (by decide) (by kernel_rfl) (by decide) int_limit hN1 g_1 hz_1
    exact ⟨z0, a1, n1, c1, r1, rfl, f1, hN1, k1⟩
end
end Go.Proofs.YtcpebhdbpkhhiaaGreat.Ev
