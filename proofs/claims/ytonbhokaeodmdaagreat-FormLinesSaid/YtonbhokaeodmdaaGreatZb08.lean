import Derived.Test.YtonbhokaeodmdaaGreatZb07
set_option linter.unusedVariables false
set_option linter.unusedSimpArgs false
/- Contracts: spaces that numbers determine. -/
namespace Go.Proofs.YtonbhokaeodmdaaGreat
open Go Go.RowKit
namespace Ev
def modN (x m : Int) : Int := (x.tmod m + m).tmod m
theorem tmod_bd {x m : Int} (h : 0 < m) : -m < x.tmod m ∧ x.tmod m < m := by
  rcases Int.lt_or_le x 0 with hx | hx
  · have e : x.tmod m = -((-x).tmod m) := by rw [Int.neg_tmod, Int.neg_neg]
    have h2 := Int.tmod_lt_of_pos (-x) h
    have h3 : 0 ≤ (-x).tmod m := Int.tmod_nonneg m (by omega)
    rw [e]; omega
  · have h2 := Int.tmod_lt_of_pos x h
    have h3 : 0 ≤ x.tmod m := Int.tmod_nonneg m hx
    omega
theorem modN_bd {x m : Int} (h : 0 < m) : 0 ≤ modN x m ∧ modN x m < m := by
  have h1 := tmod_bd (x := x) h
  unfold modN
  exact ⟨Int.tmod_nonneg m (by omega), (tmod_bd h).2⟩
def pickV (l : List Int) (i : Nat) (m : Int) : Int := if l.length = 0 then 0 else modN (l.getD (i % l.length) 0) m
theorem pick_bd {l : List Int} {i : Nat} {m : Int} (h : 0 < m) : 0 ≤ pickV l i m ∧ pickV l i m < m := by
  unfold pickV; split
  · omega
  · exact modN_bd h
theorem mul_rg {x y a b c d : Int} (hx : a ≤ x ∧ x ≤ b) (hy : c ≤ y ∧ y ≤ d) (ha : 0 ≤ a) (hc : 0 ≤ c) : a * c ≤ x * y ∧ x * y ≤ b * d :=
  ⟨Int.mul_le_mul hx.1 hy.1 hc (by omega), Int.mul_le_mul hx.2 hy.2 (by omega) (by omega)⟩
/-- Positions that rise, all below a number. -/
def Asc (L : List Int) (x : Int) : Prop := risB L = true ∧ ∀ z ∈ L, 0 ≤ z ∧ z < x
theorem ris_app : ∀ {L : List Int} {x : Int}, risB L = true → (∀ z ∈ L, z < x) → risB (L ++ [x]) = true
  | [], _, _, _ => rfl
  | [a], x, _, h => by
    have := h a (by simp)
    show (decide (a < x) && true) = true
    rw [decide_eq_true this]; rfl
  | a :: b :: L, x, h1, h => by
    have h2 : (decide (a < b) && risB (b :: L)) = true := h1
    rw [Bool.and_eq_true] at h2
    show (decide (a < b) && risB (b :: L ++ [x])) = true
    rw [h2.1, ris_app h2.2 (fun z hz => h z (by simp at hz ⊢; exact .inr hz))]; rfl
theorem Asc.add {L : List Int} {x y : Int} (h : Asc L x) (h0 : 0 ≤ x) (hy : x < y) : Asc (L ++ [x]) y :=
  ⟨ris_app h.1 (fun z hz => (h.2 z hz).2), fun z hz => by
    rcases List.mem_append.1 hz with hz | hz
    · have := h.2 z hz; omega
    · rw [List.mem_singleton.1 hz]; omega⟩
theorem Asc.one {x y : Int} (h0 : 0 ≤ x) (hy : x < y) : Asc [x] y := ⟨rfl, fun z hz => by rw [List.mem_singleton.1 hz]; omega⟩
theorem Asc.plc {L : List Int} {x hi m : Int} (h : Asc L x) (hx : x ≤ hi + 1) (h2 : 2 ≤ L.length) (hm : (L.length : Int) ≤ m) : plcB m hi L = true := by
  refine plc_yes ⟨by omega, hm⟩ ?_ h.1
  unfold inB
  rw [List.all_eq_true]
  intro z hz
  have := h.2 z hz
  simpa using (show 0 ≤ z ∧ z ≤ hi by omega)
/-- A space that numbers determine. -/
def MS (d r al up : Int) (l1 l2 : List Int) : Prop := ((1 ≤ d ∧ d ≤ 99999) ∧ (1 ≤ r ∧ r ≤ 99999) ∧ (0 ≤ al ∧ al ≤ 100000) ∧ (0 ≤ up ∧ up ≤ 100000) ∧ planB l1 l2 = true) ∧ l1.length ≤ 4 ∧ l2.length ≤ 3 ∧ Asc l1 12000 ∧ Asc l2 6000
theorem ms_mk {d r al up x y : Int} {l1 l2 : List Int} (hd : 1 ≤ d ∧ d ≤ 99999) (hr : 1 ≤ r ∧ r ≤ 99999) (ha : 0 ≤ al ∧ al ≤ 100000) (hu : 0 ≤ up ∧ up ≤ 100000) (h1 : Asc l1 x) (hx : x ≤ 12000) (h2 : Asc l2 y) (hy : y ≤ 6000) (n1 : 2 ≤ l1.length ∧ l1.length ≤ 4) (n2 : 2 ≤ l2.length ∧ l2.length ≤ 3) : MS d r al up l1 l2 :=
  ⟨⟨hd, hr, ha, hu, plan_yes (h1.plc (by omega) n1.1 (by omega)) (h2.plc (by omega) n2.1 (by omega)) (by omega) (by
    unfold inB
    rw [List.all_eq_true]
    intro z hz
    have := h2.2 z hz
    simpa using (show 0 ≤ z ∧ z ≤ 15000 by omega))⟩, n1.2, n2.2, ⟨h1.1, fun z hz => by have := h1.2 z hz; omega⟩, ⟨h2.1, fun z hz => by have := h2.2 z hz; omega⟩⟩
theorem ints_snoc {L : List Int} {x : Int} : ints (L ++ [x]) = ints L ++ [.int .i64 x] := by simp [ints]

section
variable {X : FuncId → List Value → St → (Value → St → Bool) → Bool}
theorem Mod_s (n : Nat) (x m : Int) (s : St) (hs : Wf s) (hm : 0 < m ∧ m ≤ 100000000) : Spec Tryz.prog (tabK tabw) X (n + 40) 9 [.int .i64 x, .int .i64 m] s (fun v A => v = .int .i64 (modN x m) ∧ A = []) := by
 refine enter bw9_at rfl hs ?_
 unfold bw9
 have hq := tmod_bd (x := x) hm.1
 refine rS (kM rfl rfl (i_nil (rS (kM rfl rfl (kM rfl rfl (kO rfl (a_rem rfl rfl (by omega) (kM rfl rfl (kO rfl (a_add rfl rfl (by omega) (kM rfl rfl (kO rfl (a_rem rfl rfl (by omega) (kM rfl rfl (i_nil (r_ret ?_))))))))))))))))
 exact end1 rfl ⟨rfl, rfl⟩

theorem pick_s (n : Nat) (a : Option Addr) (cap : Nat) (l : List Int) (i : Nat) (m : Int) (s : St) (hs : Wf s) (hi : i ≤ 1000) (hl : IntsE s a l) (hm : 0 < m ∧ m ≤ 100000000) : Spec Tryz.prog (tabK tabw) X (n + 100) 49 [.slice a l.length cap, .int .i64 (i : Int), .int .i64 m] s (fun v A => v = .int .i64 (pickV l i m) ∧ A = []) := by
 refine enter bw49_at rfl hs ?_
 unfold bw49
 have hlen := hl.len
 refine rS (kM rfl rfl (i_nil (rQ (rS (kM rfl rfl (kO rfl (a_lenx rfl hl.spot (kO rfl (a_eql rfl rfl (fun h1 => ?_) (fun h1 => ?_))))))))))
 ·refine i_nil (r_cond_t rfl (rS (kM rfl rfl (i_nil (r_ret (then_r (end1 rfl ⟨congrArg (Value.int .i64) ?_, rfl⟩)))))))
  unfold pickV
  first | (rw [if_pos (by omega)]; done) | (rw [if_neg (by omega)]; done)
 ·have hmd : i % l.length < l.length := Nat.mod_lt _ (by omega)
  refine i_nil (r_cond_f rfl (r_skip (then_n (rS (kM rfl rfl (kM rfl rfl (kM rfl rfl (kO rfl (a_lenx rfl hl.spot (kO rfl (a_rem rfl rfl (by omega) (kO rfl (a_iaI (j := i % l.length) hl rfl rfl rfl (by simp) (by omega) (fun _ _ a99 => (kO rfl (a_ldr rfl (hl.at a99 (by omega)) (kM rfl rfl (kO rfl (a_callV rfl rfl (fun s1 h1 => Mod_s _ _ _ s1 h1.wf (by omega)) (kM rfl rfl (i_nil (r_ret (end1 rfl ⟨congrArg (Value.int .i64) ?_, rfl⟩)))))))))))))))))))))))
  unfold pickV
  first | (rw [if_pos (by omega)]; done) | (rw [if_neg (by omega)]; done)

theorem MadeSpace_s (n : Nat) (a : Option Addr) (cap : Nat) (l : List Int) (s : St) (hs : Wf s) (hn : 281474976710656 ≤ n) (hl : IntsE s a l) : Spec Tryz.prog (tabK tabw) X (n + 1200) 15 [.slice a l.length cap] s (fun v A => ∃ b1 b2 d r al up l1 l2, v = .agg ⟨[.int .i64 d, .int .i64 r, .slice (some ⟨b1, 0, none⟩) l1.length OPEN, .slice (some ⟨b2, 0, none⟩) l2.length OPEN, .int .i64 al, .int .i64 up]⟩ ∧ A = [.row b2 3 true (ints l2), .row b1 3 true (ints l1)] ∧ MS d r al up l1 l2) := by
 refine enter bw15_at rfl hs ?_
 unfold bw15
 have hlen := hl.len
 have p0 := pick_bd (l := l) (i := 0) (m := 99) (by decide)
 have p1 := pick_bd (l := l) (i := 1) (m := 9) (by decide)
 have p2 := pick_bd (l := l) (i := 2) (m := 9) (by decide)
 have p3 := pick_bd (l := l) (i := 3) (m := 3) (by decide)
 have p4 := pick_bd (l := l) (i := 4) (m := 3) (by decide)
 have p8 := pick_bd (l := l) (i := 8) (m := 2) (by decide)
 have p9 := pick_bd (l := l) (i := 9) (m := 2) (by decide)
 have p13 := pick_bd (l := l) (i := 13) (m := 9) (by decide)
 have p14 := pick_bd (l := l) (i := 14) (m := 5) (by decide)
 have p15 := pick_bd (l := l) (i := 15) (m := 2) (by decide)
 have p16 := pick_bd (l := l) (i := 16) (m := 3) (by decide)
 have p19 := pick_bd (l := l) (i := 19) (m := 30) (by decide)
 have p20 := pick_bd (l := l) (i := 20) (m := 40) (by decide)
 have p5 := mul_rg (x := (100 * (1 + pickV l 2 9))) (y := 1 + pickV l 4 3) (a := 100) (b := 900) (c := 1) (d := 3) (by omega) (by omega) (by decide) (by decide)
 have p6 := mul_rg (x := pickV l 8 2) (y := pickV l 9 2) (a := 0) (b := 1) (c := 0) (d := 1) (by omega) (by omega) (by decide) (by decide)
 have p7 := mul_rg (x := (50 * (1 + pickV l 13 9))) (y := 1 + pickV l 16 3) (a := 50) (b := 450) (c := 1) (d := 3) (by omega) (by omega) (by decide) (by decide)
 refine rS (kO rfl (a_new rfl rfl (fun b1 => (i_nil (rS (kM rfl rfl (kO rfl (a_callV rfl rfl (fun s1 h1 => pick_s _ _ _ _ (0) _ s1 h1.wf (by omega) (hl.ext hs h1.2.1) (by omega)) (kO rfl (a_add rfl rfl (by omega) (kM rfl rfl (kO rfl (a_callV rfl rfl (fun s1 h1 => pick_s _ _ _ _ (1) _ s1 h1.wf (by omega) (hl.ext hs h1.2.1) (by omega)) (kO rfl (a_add rfl rfl (by omega) (kO rfl (a_build rfl rfl (kO rfl (a_new rfl rfl (fun b2 => (kZ rfl (a_sta rfl rfl .here rfl rfl rfl rfl (i_nil (rS (kM rfl rfl (kO rfl (a_callV rfl rfl (fun s1 h1 => pick_s _ _ _ _ (2) _ s1 h1.wf (by omega) (hl.ext hs h1.2.1) (by omega)) (kO rfl (a_add rfl rfl (by omega) (kO rfl (a_mul rfl rfl (by omega) (kM rfl rfl (i_nil (rS (kM rfl rfl (i_nil ?_))))))))))))))))))))))))))))))))))))
 refine rQ (rS (kM rfl rfl (i_nil (r_block (r_unroll (rQ (rS (kM rfl rfl (kM rfl rfl (kO rfl (a_callV rfl rfl (fun s1 h1 => pick_s _ _ _ _ (3) _ s1 h1.wf (by omega) (hl.ext hs h1.2.1) (by omega)) (kO rfl (a_add rfl rfl (by omega) (kO rfl (a_lss rfl rfl (fun h3 => ?_) (fun h3 => ?_))))))))))))))))
 ·refine i_nil (r_cond_t rfl (r_skip (then_n (rQ (r_block (rS (kO rfl (a_fa rfl (kO rfl (a_ld rfl .here rfl (kM rfl rfl (kO rfl (a_lit rfl rfl rfl (fun b4 => (kO rfl (a_appn rfl rfl (Src.own .here rfl (by simp)) (by decide) (by omega) (by omega) (fun b5 => (kO rfl (a_fa rfl (kZ rfl (a_st rfl rfl (.next (.next .here)) rfl rfl (i_nil (rI (kM rfl rfl (kM rfl rfl (kM rfl rfl (kM rfl rfl (kO rfl (a_add rfl rfl (by decide) (kO rfl (a_callV rfl rfl (fun s1 h1 => pick_s _ _ _ _ (4) _ s1 h1.wf (by omega) (hl.ext hs h1.2.1) (by omega)) (kO rfl (a_add rfl rfl (by omega) (kO rfl (a_mul rfl rfl (by omega) ?_)))))))))))))))))))))))))))))))))))
  refine kO rfl (a_add rfl rfl (by omega) (kM rfl rfl (kO rfl (a_callV rfl rfl (fun s1 h1 => pick_s _ _ _ _ (8) _ s1 h1.wf (by omega) (hl.ext hs h1.2.1) (by omega)) (kM rfl rfl (kM rfl rfl (kO rfl (a_add rfl rfl (by decide) (kO rfl (a_callV rfl rfl (fun s1 h1 => pick_s _ _ _ _ (9) _ s1 h1.wf (by omega) (hl.ext hs h1.2.1) (by omega)) (kO rfl (a_mul rfl rfl (by omega) (kO rfl (a_mul rfl rfl (by omega) (kO rfl (a_add rfl rfl (by omega) (kM rfl rfl (i_nil (block_n (then_n (rI (kM rfl rfl (kO rfl (a_add rfl rfl (by decide) (kM rfl rfl (i_nil (then_n (r_loop (fun j e A => ∃ (i b : Nat) (x : Int) (L : List Int), e = [(0, .slice a l.length cap), (2, .pointer (some ⟨b1, 0, none⟩)), (3, .pointer (some ⟨b2, 0, none⟩)), (4, .int .i64 (100 * (1 + pickV l 2 9))), (5, .int .i64 x), (6, .int .i64 (i : Int))] ∧ A = (.row b 3 true (ints L) :: (.row b2 36 false ([.int .i64 (1 + pickV l 0 99), .int .i64 (1 + pickV l 1 9), .slice (some ⟨b, 0, none⟩) i OPEN, .slice none 0 0, .int .i64 0, .int .i64 0]) :: (.row b1 36 false ([.int .i64 0, .int .i64 0, .slice none 0 0, .slice none 0 0, .int .i64 0, .int .i64 0]) :: []))) ∧ j = 5 - i ∧ L.length = i ∧ 1 ≤ i ∧ (i : Int) ≤ 2 + pickV l 3 3 ∧ Asc L x ∧ 0 ≤ x ∧ x ≤ 2800 * (i : Int)) 500 0 281474976710656 ?_ (j := _) (env2 := _) (A2 := _) ?_ ?_ ?_ ?_ ⟨1, b5, (0 + (100 * (1 + pickV l 2 9)) * (1 + pickV l (4) 3) + pickV l 8 2 * pickV l (9) 2 * 7), [0], rfl, rfl, rfl, rfl, (by omega), (by omega), (.one (by omega) (by omega)), (by omega)⟩))))))))))))))))))))))))))))
  rotate_left
  ·omega
  ·omega
  ·exact (lc 0 rfl (lc 2 rfl (lc 3 rfl (lc 4 rfl (lc 5 rfl (lc 6 rfl Less.nil))))))
  ·exact (.cons_cons _ (.cons _ (.cons_cons _ (.cons_cons _ .slnil))))
  rintro n hn j _ _ ⟨i, b, x, L, rfl, rfl, rfl, hL, hi1, hi, hA, hx⟩
  have pa := pick_bd (l := l) (i := 4 + i) (m := 3) (by decide)
  have pb := pick_bd (l := l) (i := 9 + i) (m := 2) (by decide)
  have pc := mul_rg (x := (100 * (1 + pickV l 2 9))) (y := 1 + pickV l (4 + i) 3) (a := 100) (b := 900) (c := 1) (d := 3) (by omega) (by omega) (by decide) (by decide)
  have pd := mul_rg (x := pickV l 8 2) (y := pickV l (9 + i) 2) (a := 0) (b := 1) (c := 0) (d := 1) (by omega) (by omega) (by decide) (by decide)
  refine rQ (rS (kM rfl rfl (kM rfl rfl (kO rfl (a_callV rfl rfl (fun s1 h1 => pick_s _ _ _ _ (3) _ s1 h1.wf (by omega) (hl.ext hs h1.2.1) (by omega)) (kO rfl (a_add rfl rfl (by omega) (kO rfl (a_lss rfl rfl (fun h6 => ?_) (fun h6 => ?_))))))))))
  ·refine i_nil (r_cond_t rfl (r_skip (then_n (rQ (r_block (rS (kO rfl (a_fa rfl (kO rfl (a_ld rfl (.next .here) rfl (kM rfl rfl (kO rfl (a_lit rfl rfl rfl (fun b7 => (kO rfl (a_app rfl rfl (Src.own .here rfl (by simp)) (.next .here) (by simp [hL, ints_len]) (.inl ⟨rfl, rfl⟩) (by decide) (by omega) (by omega) (fun b8 => (kO rfl (a_fa rfl (kZ rfl (a_st rfl rfl (.next (.next .here)) rfl rfl (i_nil (rI (kM rfl rfl (kM rfl rfl (kM rfl rfl (kM rfl rfl (kO rfl (a_add rfl rfl (by omega) (kO rfl (a_callV rfl rfl (fun s1 h1 => pick_s _ _ _ _ (4 + i) _ s1 h1.wf (by omega) (hl.ext hs h1.2.1) (by omega)) (kO rfl (a_add rfl rfl (by omega) (kO rfl (a_mul rfl rfl (by omega) ?_)))))))))))))))))))))))))))))))))))
   refine kO rfl (a_add rfl rfl (by omega) (kM rfl rfl (kO rfl (a_callV rfl rfl (fun s1 h1 => pick_s _ _ _ _ (8) _ s1 h1.wf (by omega) (hl.ext hs h1.2.1) (by omega)) (kM rfl rfl (kM rfl rfl (kO rfl (a_add rfl rfl (by omega) (kO rfl (a_callV rfl rfl (fun s1 h1 => pick_s _ _ _ _ (9 + i) _ s1 h1.wf (by omega) (hl.ext hs h1.2.1) (by omega)) (kO rfl (a_mul rfl rfl (by omega) (kO rfl (a_mul rfl rfl (by omega) (kO rfl (a_add rfl rfl (by omega) (kM rfl rfl (i_nil (block_n (then_n (rI (kM rfl rfl (kO rfl (a_add rfl rfl (by omega) (kM rfl rfl (i_nil (then_n ?_)))))))))))))))))))))))))))
   exact ⟨rfl, _, _, _, (show 5 - (i + 1) < 5 - i by omega), (lc 0 rfl (lc 2 rfl (lc 3 rfl (lc 4 rfl (lc 5 rfl (lc 6 rfl Less.nil)))))), (.cons_cons _ (.cons _ (.cons_cons _ (.cons_cons _ .slnil)))), ⟨i + 1, b8, (x + (100 * (1 + pickV l 2 9)) * (1 + pickV l (4 + i) 3) + pickV l 8 2 * pickV l (9 + i) 2 * 7), L ++ [x], rfl, (by rw [ints_snoc]; rfl), rfl, (by simp [hL]), (by omega), (by omega), (hA.add (by omega) (by omega)), (by omega)⟩⟩
  ·refine i_nil (r_cond_f rfl (r_exit (then_e (then_e (block_hit (then_n (rS (kM rfl rfl (kO rfl (a_callV rfl rfl (fun s1 h1 => pick_s _ _ _ _ (13) _ s1 h1.wf (by omega) (hl.ext hs h1.2.1) (by omega)) (kO rfl (a_add rfl rfl (by omega) (kO rfl (a_mul rfl rfl (by omega) (kM rfl rfl (i_nil (rS (kM rfl rfl (kO rfl (a_callV rfl rfl (fun s1 h1 => pick_s _ _ _ _ (14) _ s1 h1.wf (by omega) (hl.ext hs h1.2.1) (by omega)) (kO rfl (a_mul rfl rfl (by omega) (kM rfl rfl (i_nil (rQ (rS (kM rfl rfl (i_nil ?_))))))))))))))))))))))))))))
   refine r_block (r_unroll (rQ (rS (kM rfl rfl (kM rfl rfl (kO rfl (a_callV rfl rfl (fun s1 h1 => pick_s _ _ _ _ (15) _ s1 h1.wf (by omega) (hl.ext hs h1.2.1) (by omega)) (kO rfl (a_add rfl rfl (by omega) (kO rfl (a_lss rfl rfl (fun h9 => ?_) (fun h9 => ?_))))))))))))
   ·refine i_nil (r_cond_t rfl (r_skip (then_n (rQ (r_block (rS (kO rfl (a_fa rfl (kO rfl (a_ld rfl (.next .here) rfl (kM rfl rfl (kO rfl (a_lit rfl rfl rfl (fun b10 => (kO rfl (a_appn rfl rfl (Src.own .here rfl (by simp)) (by decide) (by omega) (by omega) (fun b11 => (kO rfl (a_fa rfl (kZ rfl (a_st rfl rfl (.next (.next (.next .here))) rfl rfl (i_nil (rI (kM rfl rfl (kM rfl rfl (kM rfl rfl (kM rfl rfl (kO rfl (a_add rfl rfl (by decide) (kO rfl (a_callV rfl rfl (fun s1 h1 => pick_s _ _ _ _ (16) _ s1 h1.wf (by omega) (hl.ext hs h1.2.1) (by omega)) (kO rfl (a_add rfl rfl (by omega) (kO rfl (a_mul rfl rfl (by omega) ?_)))))))))))))))))))))))))))))))))))
    refine kO rfl (a_add rfl rfl (by omega) (kM rfl rfl (i_nil (block_n (then_n (rI (kM rfl rfl (kO rfl (a_add rfl rfl (by decide) (kM rfl rfl (i_nil (then_n (r_loop (fun j e A => ∃ (k c : Nat) (y : Int) (M : List Int), e = [(0, .slice a l.length cap), (2, .pointer (some ⟨b1, 0, none⟩)), (3, .pointer (some ⟨b2, 0, none⟩)), (7, .int .i64 (50 * (1 + pickV l 13 9))), (8, .int .i64 y), (9, .int .i64 (k : Int))] ∧ A = (.row c 3 true (ints M) :: (.row b 3 true (ints L) :: (.row b2 36 false ([.int .i64 (1 + pickV l 0 99), .int .i64 (1 + pickV l 1 9), .slice (some ⟨b, 0, none⟩) i OPEN, .slice (some ⟨c, 0, none⟩) k OPEN, .int .i64 0, .int .i64 0]) :: (.row b1 36 false ([.int .i64 0, .int .i64 0, .slice none 0 0, .slice none 0 0, .int .i64 0, .int .i64 0]) :: [])))) ∧ j = 5 - k ∧ M.length = k ∧ 1 ≤ k ∧ (k : Int) ≤ 2 + pickV l 15 2 ∧ Asc M y ∧ 0 ≤ y ∧ y ≤ 40 + 1350 * (k : Int)) 500 0 281474976710656 ?_ (j := _) (env2 := _) (A2 := _) ?_ ?_ ?_ ?_ ⟨1, b11, (10 * pickV l 14 5 + (50 * (1 + pickV l 13 9)) * (1 + pickV l (16) 3)), [10 * pickV l 14 5], rfl, rfl, rfl, rfl, (by omega), (by omega), (.one (by omega) (by omega)), (by omega)⟩)))))))))))))
    rotate_left
    ·omega
    ·omega
    ·exact (lc 0 rfl (lc 2 rfl (lc 3 rfl (lc 7 rfl (lc 8 rfl (lc 9 rfl Less.nil))))))
    ·exact (.cons_cons _ (.cons _ (.cons_cons _ (.cons_cons _ (.cons_cons _ .slnil)))))
    rintro n hn j _ _ ⟨k, c, y, M, rfl, rfl, rfl, hM, hk1, hk, hB, hy⟩
    have pa := pick_bd (l := l) (i := 16 + k) (m := 3) (by decide)
    have pc := mul_rg (x := (50 * (1 + pickV l 13 9))) (y := 1 + pickV l (16 + k) 3) (a := 50) (b := 450) (c := 1) (d := 3) (by omega) (by omega) (by decide) (by decide)
    refine rQ (rS (kM rfl rfl (kM rfl rfl (kO rfl (a_callV rfl rfl (fun s1 h1 => pick_s _ _ _ _ (15) _ s1 h1.wf (by omega) (hl.ext hs h1.2.1) (by omega)) (kO rfl (a_add rfl rfl (by omega) (kO rfl (a_lss rfl rfl (fun h12 => ?_) (fun h12 => ?_))))))))))
    ·refine i_nil (r_cond_t rfl (r_skip (then_n (rQ (r_block (rS (kO rfl (a_fa rfl (kO rfl (a_ld rfl (.next (.next .here)) rfl (kM rfl rfl (kO rfl (a_lit rfl rfl rfl (fun b13 => (kO rfl (a_app rfl rfl (Src.own .here rfl (by simp)) (.next .here) (by simp [hM, ints_len]) (.inl ⟨rfl, rfl⟩) (by decide) (by omega) (by omega) (fun b14 => (kO rfl (a_fa rfl (kZ rfl (a_st rfl rfl (.next (.next (.next .here))) rfl rfl (i_nil (rI (kM rfl rfl (kM rfl rfl (kM rfl rfl (kM rfl rfl (kO rfl (a_add rfl rfl (by omega) (kO rfl (a_callV rfl rfl (fun s1 h1 => pick_s _ _ _ _ (16 + k) _ s1 h1.wf (by omega) (hl.ext hs h1.2.1) (by omega)) (kO rfl (a_add rfl rfl (by omega) (kO rfl (a_mul rfl rfl (by omega) ?_)))))))))))))))))))))))))))))))))))
     refine kO rfl (a_add rfl rfl (by omega) (kM rfl rfl (i_nil (block_n (then_n (rI (kM rfl rfl (kO rfl (a_add rfl rfl (by omega) (kM rfl rfl (i_nil (then_n ?_))))))))))))
     exact ⟨rfl, _, _, _, (show 5 - (k + 1) < 5 - k by omega), (lc 0 rfl (lc 2 rfl (lc 3 rfl (lc 7 rfl (lc 8 rfl (lc 9 rfl Less.nil)))))), (.cons_cons _ (.cons _ (.cons_cons _ (.cons_cons _ (.cons_cons _ .slnil))))), ⟨k + 1, b14, (y + (50 * (1 + pickV l 13 9)) * (1 + pickV l (16 + k) 3)), M ++ [y], rfl, (by rw [ints_snoc]; rfl), rfl, (by simp [hM]), (by omega), (by omega), (hB.add (by omega) (by omega)), (by omega)⟩⟩
    ·refine i_nil (r_cond_f rfl (r_exit (then_e (then_e (block_hit (then_n (rS (kM rfl rfl (kO rfl (a_callV rfl rfl (fun s1 h1 => pick_s _ _ _ _ (19) _ s1 h1.wf (by omega) (hl.ext hs h1.2.1) (by omega)) (kO rfl (a_mul rfl rfl (by omega) (kM rfl rfl (kO rfl (a_callV rfl rfl (fun s1 h1 => pick_s _ _ _ _ (20) _ s1 h1.wf (by omega) (hl.ext hs h1.2.1) (by omega)) (kO rfl (a_mul rfl rfl (by omega) (kO rfl (a_build rfl rfl (kO rfl (a_fa rfl (kZ rfl (a_sta rfl rfl (.next (.next .here)) rfl rfl rfl rfl (i_nil (rS (kO rfl (a_lda rfl (by decide) (.next (.next .here)) rfl (kZ rfl (a_sta rfl rfl (.next (.next (.next .here))) rfl rfl rfl rfl (i_nil (r_ret ?_)))))))))))))))))))))))))))))))
     subst hL
     subst hM
     refine ⟨rfl, [_], _, ⟨_, _, _, [], rfl, rfl, by decide, ⟨_, _, _, (.next (.next (.next .here))), rfl⟩, rfl⟩, (.cons_cons _ (.cons_cons _ (.cons _ (.cons _ .slnil)))), b, c, _, _, _, _, L, M, rfl, rfl, ms_mk (by omega) (by omega) (by omega) (by omega) hA (by omega) hB (by omega) (by omega) (by omega)⟩
   ·exfalso; omega
 ·exfalso; omega

end
end Ev
end Go.Proofs.YtonbhokaeodmdaaGreat

/- Sums of weights. -/
namespace Go.Proofs.YtonbhokaeodmdaaGreat
open Go Go.RowKit
namespace Ev
def sumN (f : Nat → Int) : Nat → Int
  | 0 => 0
  | k + 1 => sumN f k + f k
theorem sumN_congr {f g : Nat → Int} : ∀ {k : Nat}, (∀ j, j < k → f j = g j) → sumN f k = sumN g k
  | 0, _ => rfl
  | k + 1, h => by
    show sumN f k + f k = sumN g k + g k
    rw [sumN_congr (fun j hj => h j (by omega)), h k (by omega)]
theorem sumN_add {f : Nat → Int} {a : Nat} : ∀ b, sumN f (a + b) = sumN f a + sumN (fun j => f (a + j)) b
  | 0 => (Int.add_zero _).symm
  | b + 1 => by
    show sumN f (a + b) + f (a + b) = _ + (sumN (fun j => f (a + j)) b + f (a + b))
    rw [sumN_add b]; omega
theorem sumN_mulc {f : Nat → Int} {c : Int} : ∀ k, sumN (fun j => c * f j) k = c * sumN f k
  | 0 => (Int.mul_zero c).symm
  | k + 1 => by
    show sumN (fun j => c * f j) k + c * f k = c * (sumN f k + f k)
    rw [sumN_mulc k, Int.mul_add]
theorem sumN_cmul {f : Nat → Int} {c : Int} : ∀ k, sumN (fun j => f j * c) k = sumN f k * c
  | 0 => (Int.zero_mul c).symm
  | k + 1 => by
    show sumN (fun j => f j * c) k + f k * c = (sumN f k + f k) * c
    rw [sumN_cmul k, Int.add_mul]
theorem sumN_grid {f g : Nat → Int} {n : Nat} (hn : 0 < n) : ∀ m, sumN (fun t => f (t / n) * g (t % n)) (n * m) = sumN f m * sumN g n
  | 0 => by rw [Nat.mul_zero]; exact (Int.zero_mul _).symm
  | m + 1 => by
    rw [Nat.mul_add, Nat.mul_one, sumN_add, sumN_grid hn m]
    have e : sumN (fun j => f ((n * m + j) / n) * g ((n * m + j) % n)) n = f m * sumN g n := by
      rw [← sumN_mulc]
      refine sumN_congr (fun j hj => ?_)
      rw [Nat.mul_add_div hn, Nat.mul_add_mod, Nat.div_eq_of_lt hj, Nat.mod_eq_of_lt hj, Nat.add_zero]
    rw [e]
    show _ = (sumN f m + f m) * _
    rw [Int.add_mul]
theorem sumN_mono {f : Nat → Int} (h : ∀ j, 0 ≤ f j) {a b : Nat} (hab : a ≤ b) : sumN f a ≤ sumN f b := by
  obtain ⟨d, rfl⟩ : ∃ d, b = a + d := ⟨b - a, by omega⟩
  induction d with
  | zero => exact Int.le_refl _
  | succ d ih => have := ih (by omega); show sumN f a ≤ sumN f (a + d) + f (a + d); have := h (a + d); omega
theorem sumN_nn {f : Nat → Int} (h : ∀ j, 0 ≤ f j) (k : Nat) : 0 ≤ sumN f k := sumN_mono h (Nat.zero_le k)
theorem sumN_zero {f : Nat → Int} {a : Nat} (h : ∀ j, a ≤ j → f j = 0) : ∀ d, sumN f (a + d) = sumN f a
  | 0 => rfl
  | d + 1 => by
    show sumN f (a + d) + f (a + d) = _
    rw [sumN_zero h d, h _ (by omega)]; omega
def iab (x : Int) : Int := max x (-x)
theorem iab_nn (x : Int) : 0 ≤ iab x := by unfold iab; omega
theorem iab_add (x y : Int) : iab (x + y) ≤ iab x + iab y := by unfold iab; omega
theorem iab_mul (x y : Int) : iab (x * y) = iab x * iab y := by
  unfold iab
  rcases Int.le_total 0 x with hx | hx <;> rcases Int.le_total 0 y with hy | hy
  · have := Int.mul_nonneg hx hy
    rw [Int.max_eq_left (by omega), Int.max_eq_left (by omega), Int.max_eq_left (by omega)]
  · have := Int.mul_nonneg hx (show 0 ≤ -y by omega)
    rw [Int.mul_neg] at this
    rw [Int.max_eq_right (by omega), Int.max_eq_left (by omega), Int.max_eq_right (by omega), Int.mul_neg]
  · have := Int.mul_nonneg (show 0 ≤ -x by omega) hy
    rw [Int.neg_mul] at this
    rw [Int.max_eq_right (by omega), Int.max_eq_right (by omega), Int.max_eq_left (by omega), Int.neg_mul]
  · have := Int.mul_nonneg (show 0 ≤ -x by omega) (show 0 ≤ -y by omega)
    rw [Int.neg_mul_neg] at this
    rw [Int.max_eq_left (by omega), Int.max_eq_right (by omega), Int.max_eq_right (by omega), Int.neg_mul_neg]
def totP (w : List Int) (k : Nat) : Int := sumN (fun j => w.getD j 0) k
def tobP (w : List Int) (k : Nat) : Int := sumN (fun j => iab (w.getD j 0)) k
theorem getD_set_eq {w : List Int} {i : Nat} {v : Int} (h : i < w.length) : (w.set i v).getD i 0 = v := by simp [List.getD_eq_getElem?_getD, h]
theorem sum_set {w : List Int} {i : Nat} {v : Int} (g : Int → Int) (hi : i < w.length) : ∀ {k : Nat}, i < k → sumN (fun j => g ((w.set i v).getD j 0)) k = sumN (fun j => g (w.getD j 0)) k - g (w.getD i 0) + g v
  | k + 1, hk => by
    show sumN (fun j => g ((w.set i v).getD j 0)) k + g ((w.set i v).getD k 0) = sumN (fun j => g (w.getD j 0)) k + g (w.getD k 0) - _ + _
    by_cases h : i = k
    · subst h
      rw [getD_set_eq hi, sumN_congr (g := fun j => g (w.getD j 0)) (fun j hj => by rw [getD_set_ne (by omega)])]; omega
    · rw [getD_set_ne h, sum_set g hi (k := k) (by omega)]; omega
theorem tot_set {w : List Int} {i k : Nat} {v : Int} (hi : i < w.length) (hk : i < k) : totP (w.set i v) k = totP w k - w.getD i 0 + v := sum_set (fun x => x) hi hk
theorem tob_set {w : List Int} {i k : Nat} {c : Int} (hi : i < w.length) (hk : i < k) : tobP (w.set i (w.getD i 0 + c)) k ≤ tobP w k + iab c := by
  have h := sum_set (v := w.getD i 0 + c) iab hi hk
  have h2 := iab_add (w.getD i 0) c
  unfold tobP
  omega
theorem tot_add {w : List Int} {i k : Nat} {c : Int} (hi : i < w.length) (hk : i < k) : totP (w.set i (w.getD i 0 + c)) k = totP w k + c := by rw [tot_set hi hk]; omega
theorem set_two {w : List Int} {i : Nat} {a b : Int} : (w.set i a).set (i + 1) (w.getD (i + 1) 0 + b) = (w.set i a).set (i + 1) ((w.set i a).getD (i + 1) 0 + b) := by rw [getD_set_ne (show i ≠ i + 1 by omega)]
theorem set_three {w : List Int} {i : Nat} {a b c : Int} : ((w.set i a).set (i + 1) b).set (i + 2) (w.getD (i + 2) 0 + c) = ((w.set i a).set (i + 1) b).set (i + 2) (((w.set i a).set (i + 1) b).getD (i + 2) 0 + c) := by
  rw [getD_set_ne (show i + 1 ≠ i + 2 by omega), getD_set_ne (show i ≠ i + 2 by omega)]
theorem sums_1 {w : List Int} {i : Nat} {a b : Int} {k : Nat} (hk : w.length = k) (hi : i + 1 < k) : totP ((w.set i (w.getD i 0 + a)).set (i + 1) (w.getD (i + 1) 0 + b)) k = totP w k + a + b ∧ tobP ((w.set i (w.getD i 0 + a)).set (i + 1) (w.getD (i + 1) 0 + b)) k ≤ tobP w k + iab a + iab b := by
  subst hk
  rw [set_two]
  have h1 := tob_set (w := w.set i (w.getD i 0 + a)) (i := i + 1) (k := w.length) (c := b) (by rw [List.length_set]; omega) (by omega)
  have h2 := tob_set (w := w) (i := i) (k := w.length) (c := a) (by omega) (by omega)
  rw [tot_add (by rw [List.length_set]; omega) (by omega), tot_add (by omega) (by omega)]
  exact ⟨rfl, by omega⟩
theorem sums_2 {w : List Int} {i : Nat} {a b c : Int} {k : Nat} (hk : w.length = k) (hi : i + 2 < k) : totP (((w.set i (w.getD i 0 + a)).set (i + 1) (w.getD (i + 1) 0 + b)).set (i + 2) (w.getD (i + 2) 0 + c)) k = totP w k + a + b + c ∧ tobP (((w.set i (w.getD i 0 + a)).set (i + 1) (w.getD (i + 1) 0 + b)).set (i + 2) (w.getD (i + 2) 0 + c)) k ≤ tobP w k + iab a + iab b + iab c := by
  have h0 := sums_1 (i := i) (a := a) (b := b) hk (by omega)
  subst hk
  rw [set_three]
  have h1 := tob_set (w := (w.set i (w.getD i 0 + a)).set (i + 1) (w.getD (i + 1) 0 + b)) (i := i + 2) (k := w.length) (c := c) (by rw [List.length_set, List.length_set]; omega) (by omega)
  rw [tot_add (by rw [List.length_set, List.length_set]; omega) (by omega), h0.1]
  exact ⟨rfl, by omega⟩
theorem rat_1 {a b : Int} (h : rat a b = 1) : max a b = min a b := by unfold rat at h; (repeat' split at h) <;> omega
theorem rat_2 {a b : Int} (h : rat a b = 2) : max a b = 2 * min a b := by unfold rat at h; (repeat' split at h) <;> omega
theorem rat_3 {a b : Int} (h : rat a b = 3) : max a b = 3 * min a b := by unfold rat at h; (repeat' split at h) <;> omega
theorem step_sums {l w : List Int} {i m : Nat} (hp : Plc 9 100000 l) (hw : w.length = l.length) (hin : i + m < l.length) (hm : many l i = m) :
    totP (stepW l w (i, m)) l.length = totP w l.length + 36 * (l.getD (i + m) 0 - l.getD i 0) ∧ tobP (stepW l w (i, m)) l.length ≤ tobP w l.length + 48 * (l.getD (i + m) 0 - l.getD i 0) := by
  unfold stepW
  rcases many_cases l i with q | q
  · obtain rfl : m = 1 := by omega
    rw [if_pos rfl]
    have r0 := hp.rise i (by omega)
    show totP (step1 l w i) _ = _ ∧ tobP (step1 l w i) _ ≤ _
    unfold step1
    obtain ⟨e1, e2⟩ := sums_1 (w := w) (i := i) (a := 18 * (l.getD (i + 1) 0 - l.getD i 0)) (b := 18 * (l.getD (i + 1) 0 - l.getD i 0)) hw (by omega)
    have hb : iab (18 * (l.getD (i + 1) 0 - l.getD i 0)) = 18 * (l.getD (i + 1) 0 - l.getD i 0) := by unfold iab; omega
    rw [hb] at e2
    exact ⟨by rw [e1]; omega, by omega⟩
  · obtain rfl : m = 2 := by omega
    rw [if_neg (by show ¬ (2 = 1); decide)]
    have r0 := hp.rise i (by omega)
    have r1 := hp.rise (i + 1) (by omega)
    show totP (step2 l w i (rat _ _)) _ = _ ∧ tobP (step2 l w i (rat _ _)) _ ≤ _
    obtain ⟨h1, hh1⟩ : ∃ h1, h1 = l.getD (i + 1) 0 - l.getD i 0 := ⟨_, rfl⟩
    obtain ⟨h2, hh2⟩ : ∃ h2, h2 = l.getD (i + 2) 0 - l.getD (i + 1) 0 := ⟨_, rfl⟩
    have key : ∀ (a b c : Int), (a + b + c = 36 * (h1 + h2)) → (iab a + iab b + iab c ≤ 48 * (h1 + h2)) → totP (((w.set i (w.getD i 0 + a)).set (i + 1) (w.getD (i + 1) 0 + b)).set (i + 2) (w.getD (i + 2) 0 + c)) l.length = totP w l.length + 36 * (l.getD (i + 2) 0 - l.getD i 0) ∧ tobP (((w.set i (w.getD i 0 + a)).set (i + 1) (w.getD (i + 1) 0 + b)).set (i + 2) (w.getD (i + 2) 0 + c)) l.length ≤ tobP w l.length + 48 * (l.getD (i + 2) 0 - l.getD i 0) := fun a b c e1 e2 => by
      obtain ⟨q1, q2⟩ := sums_2 (w := w) (i := i) (a := a) (b := b) (c := c) hw (by omega)
      exact ⟨by rw [q1]; omega, by omega⟩
    unfold step2
    rw [← hh1, ← hh2]
    rcases rat_pos (many_ne q) with hk | hk | hk
    · rw [← hh1, ← hh2] at hk
      have hx := rat_1 hk
      rw [hk]
      have hu : unitK h1 h2 1 = 12 * min h1 h2 := rfl
      simp only [hu]
      split <;> exact key _ _ _ (by omega) (by unfold iab; omega)
    · rw [← hh1, ← hh2] at hk
      have hx := rat_2 hk
      rw [hk]
      have hu : unitK h1 h2 2 = 9 * min h1 h2 := rfl
      simp only [hu]
      split <;> exact key _ _ _ (by omega) (by unfold iab; omega)
    · rw [← hh1, ← hh2] at hk
      have hx := rat_3 hk
      rw [hk]
      have hu : unitK h1 h2 3 = 8 * min h1 h2 := rfl
      simp only [hu]
      split <;> exact key _ _ _ (by omega) (by unfold iab; omega)
theorem fold_sums {l : List Int} (hp : Plc 9 100000 l) : ∀ (f i : Nat) (w : List Int), l.length ≤ i + f → i < l.length → w.length = l.length →
    totP ((grs l i).foldl (stepW l) w) l.length = totP w l.length + 36 * (l.getD (l.length - 1) 0 - l.getD i 0) ∧ tobP ((grs l i).foldl (stepW l) w) l.length ≤ tobP w l.length + 48 * (l.getD (l.length - 1) 0 - l.getD i 0)
  | 0, i, w, hf, hi, hw => by omega
  | f + 1, i, w, hf, hi, hw => by
    by_cases h : i + 1 < l.length
    · rw [gr_eq h, List.foldl_cons]
      have hmm := many_cases l i
      have hin : i + many l i < l.length := by unfold many; split <;> omega
      obtain ⟨s1, s2⟩ := step_sums hp hw hin rfl
      obtain ⟨t1, t2⟩ := fold_sums hp f (i + many l i) (stepW l w (i, many l i)) (by omega) hin (by rw [step_len]; exact hw)
      exact ⟨by rw [t1, s1]; omega, by omega⟩
    · rw [gr_nil (by omega), show i = l.length - 1 by omega]
      exact ⟨by simp, by simp⟩
theorem sumN_rep (g : Int → Int) (hg : g 0 = 0) (n : Nat) : ∀ k, sumN (fun j => g ((List.replicate n (0 : Int)).getD j 0)) k = 0
  | 0 => rfl
  | k + 1 => by
    have e : (List.replicate n (0 : Int)).getD k 0 = 0 := by rw [List.getD_eq_getElem?_getD, List.getElem?_replicate]; split <;> rfl
    show sumN _ k + g ((List.replicate n (0 : Int)).getD k 0) = 0
    rw [sumN_rep g hg n k, e, hg]; rfl
/-- The weights add up to 36 times the length, their sizes to at most 48 times the length. -/
theorem wts_sums {l : List Int} (hp : Plc 9 100000 l) : totP (wts l) l.length = 36 * (l.getD (l.length - 1) 0 - l.getD 0 0) ∧ tobP (wts l) l.length ≤ 48 * (l.getD (l.length - 1) 0 - l.getD 0 0) := by
  obtain ⟨h1, h2⟩ := fold_sums hp l.length 0 (List.replicate l.length 0) (by omega) (by have := hp.h2; omega) (by simp)
  have e1 : totP (List.replicate l.length 0) l.length = 0 := sumN_rep (fun x => x) rfl _ _
  have e2 : tobP (List.replicate l.length 0) l.length = 0 := sumN_rep iab rfl _ _
  rw [e1] at h1; rw [e2] at h2
  exact ⟨by unfold wts; omega, by unfold wts; omega⟩
theorem totP_far {w : List Int} {k : Nat} (h : w.length ≤ k) : totP w k = totP w w.length := by
  obtain ⟨d, rfl⟩ : ∃ d, k = w.length + d := ⟨k - w.length, by omega⟩
  exact sumN_zero (fun j hj => getD_out hj) d
theorem tobP_far {w : List Int} {k : Nat} (h : w.length ≤ k) : tobP w k = tobP w w.length := by
  obtain ⟨d, rfl⟩ : ∃ d, k = w.length + d := ⟨k - w.length, by omega⟩
  exact sumN_zero (fun j hj => by rw [getD_out hj]; rfl) d
theorem only_get {x j : Nat} : (onlyL x).getD j 0 = if j = x then 1 else 0 := by
  unfold onlyL
  by_cases h : j = x
  · subst h; rw [if_pos rfl, getD_set_eq (by simp)]
  · rw [if_neg h, getD_set_ne (Ne.symm h), List.getD_eq_getElem?_getD, List.getElem?_replicate]; split <;> rfl
theorem only_sum (g : Int → Int) (h0 : g 0 = 0) {x : Nat} : ∀ {k : Nat}, sumN (fun j => g ((onlyL x).getD j 0)) k = if x < k then g 1 else 0
  | 0 => by rw [if_neg (by omega)]; rfl
  | k + 1 => by
    show sumN _ k + g ((onlyL x).getD k 0) = _
    rw [only_sum g h0, only_get]
    by_cases h1 : k = x
    · rw [if_pos h1, if_neg (by omega), if_pos (by omega)]; omega
    · rw [if_neg h1, h0]
      by_cases h2 : x < k
      · rw [if_pos h2, if_pos (by omega)]; omega
      · rw [if_neg h2, if_neg (by omega)]; rfl
theorem only_tot {x k : Nat} (h : x < k) : totP (onlyL x) k = 1 := (only_sum (fun x => x) rfl).trans (if_pos h)
theorem only_tob {x k : Nat} (h : x < k) : tobP (onlyL x) k = 1 := (only_sum iab rfl).trans (if_pos h)
/-- Numbers of a list as weights of another one's. -/
def dotP (w x : List Int) (k : Nat) : Int := sumN (fun j => w.getD j 0 * x.getD j 0) k
theorem gpre_get {al up : List Int} {n N t : Nat} (h : t < N) : (gpre al up n N).getD (t + 1) 0 = gpf al up n t := by
  unfold gpre
  rw [List.getD_eq_getElem?_getD, List.getElem?_cons_succ, List.getElem?_map, List.getElem?_range h]; rfl
theorem sumN_shift {f : Nat → Int} : ∀ k, sumN f (k + 1) = f 0 + sumN (fun j => f (j + 1)) k
  | 0 => by show 0 + f 0 = f 0 + 0; omega
  | k + 1 => by
    show sumN f (k + 1) + f (k + 1) = f 0 + (sumN (fun j => f (j + 1)) k + f (k + 1))
    rw [sumN_shift k]; omega
theorem gpre_tob {al up : List Int} {n m : Nat} (hn : 0 < n) : tobP (gpre al up n (n * m)) (n * m + 1) = tobP al m * tobP up n := by
  unfold tobP
  rw [sumN_shift]
  have e0 : iab ((gpre al up n (n * m)).getD 0 0) = 0 := rfl
  rw [e0, Int.zero_add, ← sumN_grid hn]
  refine sumN_congr (fun t ht => ?_)
  rw [gpre_get ht]
  exact iab_mul _ _
theorem gpre_dot {al up x : List Int} {n m : Nat} {c : Int} (hn : 0 < n) (hx : ∀ t, t < n * m → x.getD (t + 1) 0 = c) : dotP (gpre al up n (n * m)) x (n * m + 1) = totP al m * totP up n * c := by
  unfold dotP
  rw [sumN_shift]
  have e0 : (gpre al up n (n * m)).getD 0 0 * x.getD 0 0 = 0 := Int.zero_mul _
  rw [e0, Int.zero_add]
  unfold totP
  rw [← sumN_grid hn, ← sumN_cmul]
  refine sumN_congr (fun t ht => ?_)
  rw [gpre_get ht, hx t ht]; rfl

section
variable {X : FuncId → List Value → St → (Value → St → Bool) → Bool}

end
end Ev
end Go.Proofs.YtonbhokaeodmdaaGreat

/- Contracts: hulls and values. -/
namespace Go.Proofs.YtonbhokaeodmdaaGreat
open Go Go.RowKit
namespace Ev
/-- A table that came in: rows of numbers. -/
structure TblE (s : St) (a : Option Addr) (M : List (List Int)) : Prop where
  spot : ∀ b, a = some b → b.spot = none
  row : ∀ k, k < M.length → ∃ b o ai ci, a = some ⟨b, o, none⟩ ∧ At s b (o + k * 1) (.slice ai (M.getD k []).length ci) ∧ IntsE s ai (M.getD k [])
  len : M.length < 140737488355328
theorem TblE.ext {s s' : St} {a : Option Addr} {M : List (List Int)} (h : TblE s a M) (hw : Wf s) (x : Ext s s') : TblE s' a M :=
  ⟨h.spot, fun k hk => by
    obtain ⟨b, o, ai, ci, h1, h2, h3⟩ := h.row k hk
    exact ⟨b, o, ai, ci, h1, h2.ext hw x, h3.ext hw x⟩, h.len⟩
def allB (n : Nat) (M : List (List Int)) : Bool := M.all fun r => decide (r.length = n) && inB 0 20000 r
theorem all_step {n : Nat} {M : List (List Int)} {k : Nat} (hk : k < M.length) : allB n (M.drop k) = (decide ((M.getD k []).length = n) && inB 0 20000 (M.getD k []) && allB n (M.drop (k + 1))) := by
  rw [List.drop_eq_getElem_cons hk, List.getD_eq_getElem?_getD, List.getElem?_eq_getElem hk]; rfl
theorem all_bad1 {n : Nat} {M : List (List Int)} {k : Nat} (hk : k < M.length) (hi : allB n M = allB n (M.drop k)) (h : ¬ (M.getD k []).length = n) : allB n M = false := by
  rw [hi, all_step hk, decide_eq_false h]; rfl
theorem all_bad2 {n : Nat} {M : List (List Int)} {k : Nat} (hk : k < M.length) (hi : allB n M = allB n (M.drop k)) (h : inB 0 20000 (M.getD k []) = false) : allB n M = false := by
  rw [hi, all_step hk, h]; simp
theorem all_good {n : Nat} {M : List (List Int)} {k : Nat} (hk : k < M.length) (hi : allB n M = allB n (M.drop k)) (h : (M.getD k []).length = n) (h2 : inB 0 20000 (M.getD k []) = true) : allB n M = allB n (M.drop (k + 1)) := by
  rw [hi, all_step hk, decide_eq_true h, h2]; rfl
theorem all_end {n : Nat} {M : List (List Int)} {k : Nat} (hi : allB n M = allB n (M.drop k)) (hk : M.length ≤ k) : allB n M = true := by
  rw [hi, List.drop_eq_nil_of_le hk]; rfl
theorem all_row {n : Nat} {M : List (List Int)} (h : allB n M = true) {k : Nat} (hk : k < M.length) : (M.getD k []).length = n ∧ inB 0 20000 (M.getD k []) = true := by
  unfold allB at h
  have h1 := List.all_eq_true.1 h (M.getD k []) (by rw [List.getD_eq_getElem?_getD, List.getElem?_eq_getElem hk]; exact List.getElem_mem hk)
  rw [Bool.and_eq_true] at h1
  exact ⟨of_decide_eq_true h1.1, h1.2⟩
def hpf (M : List (List Int)) (n t : Nat) : Int := (M.getD (t / n) []).getD (t % n) 0
/-- The unknown 0 and the first offsets of a hull. -/
def hpt (M : List (List Int)) (n t : Nat) : List Int := 0 :: (List.range t).map (hpf M n)
theorem hpt_len {M : List (List Int)} {n t : Nat} : (hpt M n t).length = t + 1 := by simp [hpt]
theorem hpf_at {M : List (List Int)} {n i y : Nat} (hy : y < n) : hpf M n (n * i + y) = (M.getD i []).getD y 0 := by
  unfold hpf
  rw [Nat.mul_add_div (by omega), Nat.mul_add_mod, Nat.div_eq_of_lt hy, Nat.mod_eq_of_lt hy, Nat.add_zero]
theorem hpt_add {M : List (List Int)} {n i y : Nat} (hy : y < n) : ints (hpt M n (n * i + y)) ++ [.int .i64 ((M.getD i []).getD y 0)] = ints (hpt M n (n * i + (y + 1))) := by
  rw [← hpf_at (M := M) (n := n) (i := i) hy]
  show _ = ints (hpt M n (n * i + y + 1))
  unfold hpt ints
  rw [List.range_succ]; simp
theorem hpt_get {M : List (List Int)} {n N t : Nat} (h : t < N) : (hpt M n N).getD (t + 1) 0 = hpf M n t := by
  unfold hpt
  rw [List.getD_eq_getElem?_getD, List.getElem?_cons_succ, List.getElem?_map, List.getElem?_range h]; rfl
theorem hpt_in {M : List (List Int)} {n m : Nat} (hn : 0 < n) (hm : M.length = m) (h : allB n M = true) : inB (-1280000) 1280000 (hpt M n (n * m)) = true := by
  unfold inB
  rw [List.all_eq_true]
  intro x hx
  rcases List.mem_cons.1 hx with rfl | hx
  · decide
  · obtain ⟨t, ht, rfl⟩ := List.mem_map.1 hx
    have ht := List.mem_range.1 ht
    have h1 : t / n < m := Nat.div_lt_of_lt_mul ht
    have h2 : t % n < n := Nat.mod_lt _ hn
    obtain ⟨h3, h4⟩ := all_row h (k := t / n) (by omega)
    have h5 := in_all h4 (k := t % n) (by omega)
    unfold hpf
    simpa using (show -1280000 ≤ (M.getD (t / n) []).getD (t % n) 0 ∧ (M.getD (t / n) []).getD (t % n) 0 ≤ 1280000 by omega)
theorem mul_x {w x M : Int} (hM : 0 ≤ M) (hx : -M ≤ x ∧ x ≤ M) : -(M * iab w) ≤ w * x ∧ w * x ≤ M * iab w := by
  have h1 : iab (w * x) ≤ iab w * M := by
    rw [iab_mul]
    exact Int.mul_le_mul_of_nonneg_left (by unfold iab; omega) (iab_nn w)
  rw [Int.mul_comm (iab w) M] at h1
  unfold iab at h1 ⊢
  omega
theorem dot_bd {w x : List Int} (hx : inB (-1280000) 1280000 x = true) (hl : x.length = w.length) : ∀ {k : Nat}, k ≤ w.length → -(1280000 * tobP w k) ≤ dotP w x k ∧ dotP w x k ≤ 1280000 * tobP w k
  | 0, _ => by show -(1280000 * 0) ≤ (0 : Int) ∧ (0 : Int) ≤ 1280000 * 0; omega
  | k + 1, hk => by
    have h1 := dot_bd hx hl (k := k) (by omega)
    have h2 := mul_x (w := w.getD k 0) (M := 1280000) (by decide) (in_all hx (k := k) (by omega))
    show -(1280000 * (tobP w k + iab (w.getD k 0))) ≤ dotP w x k + w.getD k 0 * x.getD k 0 ∧ dotP w x k + w.getD k 0 * x.getD k 0 ≤ 1280000 * (tobP w k + iab (w.getD k 0))
    omega
theorem tob_le {w : List Int} {a b : Nat} (h : a ≤ b) : tobP w a ≤ tobP w b := sumN_mono (fun j => iab_nn _) h
theorem tob_nn {w : List Int} {a : Nat} : 0 ≤ tobP w a := sumN_nn (fun j => iab_nn _) a
def wgB (w : List Int) : Bool := decide (tobP w w.length ≤ 3600000000000)
theorem wg_bad {w : List Int} {k : Nat} (hk : k < w.length) (h : ¬ (-(3600000000000 - tobP w k) ≤ w.getD k 0 ∧ w.getD k 0 ≤ 3600000000000 - tobP w k)) : wgB w = false := by
  have h1 := tob_le (w := w) (a := k + 1) (b := w.length) (by omega)
  have h2 : tobP w (k + 1) = tobP w k + iab (w.getD k 0) := rfl
  unfold wgB
  refine decide_eq_false (fun q => h ?_)
  unfold iab at h2
  omega
theorem wg_end {w : List Int} {k : Nat} (hk : k = w.length) (h : tobP w k ≤ 3600000000000) : wgB w = true := by subst hk; exact decide_eq_true h
def flr (a b : Int) : Int := if a.tmod b < 0 then a.tdiv b - 1 else a.tdiv b
theorem tdiv_rg {a b : Int} (ha : -5000000000000000000 ≤ a ∧ a ≤ 5000000000000000000) (hb : 0 < b) : -5000000000000000000 ≤ a.tdiv b ∧ a.tdiv b ≤ 5000000000000000000 := by
  rcases Int.le_total 0 a with h | h
  · rw [Int.tdiv_eq_ediv_of_nonneg h]
    have h1 := Int.ediv_nonneg h (show 0 ≤ b by omega)
    have h2 := Int.ediv_le_self b h
    omega
  · have e : a.tdiv b = -((-a).tdiv b) := by rw [Int.neg_tdiv, Int.neg_neg]
    rw [e, Int.tdiv_eq_ediv_of_nonneg (show 0 ≤ -a by omega)]
    have h1 := Int.ediv_nonneg (show 0 ≤ -a by omega) (show 0 ≤ b by omega)
    have h2 := Int.ediv_le_self b (show 0 ≤ -a by omega)
    omega

section
variable {X : FuncId → List Value → St → (Value → St → Bool) → Bool}
theorem floor_s (n : Nat) (x y : Int) (s : St) (hs : Wf s) (hx : -5000000000000000000 ≤ x ∧ x ≤ 5000000000000000000) (hy : 0 < y) : Spec Tryz.prog (tabK tabw) X (n + 60) 35 [.int .i64 x, .int .i64 y] s (fun v A => v = .int .i64 (flr x y) ∧ A = []) := by
 refine enter bw35_at rfl hs ?_
 unfold bw35
 have hq := tdiv_rg hx hy
 refine rS (kM rfl rfl (i_nil (rS (kM rfl rfl (kM rfl rfl (kO rfl (a_quo rfl rfl (by omega) (by omega) (kM rfl rfl (i_nil (rQ (rS (kM rfl rfl (kM rfl rfl (kO rfl (a_rem rfl rfl (by omega) (kO rfl (a_lss rfl rfl (fun h1 => ?_) (fun h1 => ?_))))))))))))))))))
 ·refine i_nil (r_cond_t rfl (rI (kM rfl rfl (kO rfl (a_sub rfl rfl (by omega) (kM rfl rfl (i_nil (then_n (rS (kM rfl rfl (kM rfl rfl (i_nil (r_ret (end1 rfl ⟨congrArg (Value.int .i64) ?_, rfl⟩))))))))))))))
  unfold flr
  first | exact (if_pos (by omega)).symm | exact (if_neg (by omega)).symm
 ·refine i_nil (r_cond_f rfl (r_skip (then_n (rS (kM rfl rfl (kM rfl rfl (i_nil (r_ret (end1 rfl ⟨congrArg (Value.int .i64) ?_, rfl⟩)))))))))
  unfold flr
  first | exact (if_pos (by omega)).symm | exact (if_neg (by omega)).symm

theorem binside_s (n : Nat) (x lo hi : Int) (s : St) (hs : Wf s) : Spec Tryz.prog (tabK tabw) X (n + 20) 113 [.int .i64 x, .int .i64 lo, .int .i64 hi] s (fun v A => v = .bool (decide (lo ≤ x ∧ x ≤ hi)) ∧ A = []) := by
 refine enter bw113_at rfl hs ?_
 unfold bw113
 refine rS (kM rfl rfl (i_nil (rS (kM rfl rfl (kM rfl rfl (kO rfl (a_leq rfl rfl (fun h1 => ?_) (fun h1 => ?_))))))))
 ·refine kM rfl rfl (kG rfl rfl (a_mov rfl (kG rfl rfl (a_mov rfl (kG rfl rfl (a_leq rfl rfl (fun h2 => ?_) (fun h2 => ?_)))))))
  ·refine kO rfl (a_pick_t rfl rfl rfl (kM rfl rfl (i_nil (r_ret (end1 rfl ⟨congrArg Value.bool ?_, rfl⟩)))))
   first | exact (decide_eq_true (by omega)).symm | exact (decide_eq_false (by omega)).symm
  ·refine kO rfl (a_pick_t rfl rfl rfl (kM rfl rfl (i_nil (r_ret (end1 rfl ⟨congrArg Value.bool ?_, rfl⟩)))))
   first | exact (decide_eq_true (by omega)).symm | exact (decide_eq_false (by omega)).symm
 ·refine kM rfl rfl (i_no rfl rfl (i_no rfl rfl (i_no rfl rfl (kO rfl (a_pick_f rfl rfl rfl (kM rfl rfl (i_nil (r_ret (end1 rfl ⟨congrArg Value.bool ?_, rfl⟩)))))))))
  first | exact (decide_eq_true (by omega)).symm | exact (decide_eq_false (by omega)).symm

theorem tooFar_s (n : Nat) (x : Int) (s : St) (hs : Wf s) : Spec Tryz.prog (tabK tabw) X (n + 60) 67 [.int .i64 x] s (fun v A => v = .bool (decide (¬ (0 ≤ x ∧ x ≤ 20000))) ∧ A = []) := by
 refine enter bw67_at rfl hs ?_
 unfold bw67
 refine rS (kM rfl rfl (i_nil (rS (kM rfl rfl (kO rfl (a_callB rfl rfl (fun s1 h1 => inside_s _ _ _ _ s1 h1.wf) (fun h1 => ?_) (fun h1 => ?_)))))))
 ·refine kO rfl (a_not rfl (kM rfl rfl (i_nil (r_ret (end1 rfl ⟨congrArg Value.bool ?_, rfl⟩)))))
  first | exact (decide_eq_true (by omega)).symm | exact (decide_eq_false (by omega)).symm
 ·refine kO rfl (a_not rfl (kM rfl rfl (i_nil (r_ret (end1 rfl ⟨congrArg Value.bool ?_, rfl⟩)))))
  first | exact (decide_eq_true (by omega)).symm | exact (decide_eq_false (by omega)).symm

theorem IndexFunc_s (n : Nat) (a : Option Addr) (cap : Nat) (l : List Int) (s : St) (hs : Wf s) (hn : 281474976710656 ≤ n) (hl : IntsE s a l) : Spec Tryz.prog (tabK tabw) X (n + 200) 107 [.slice a l.length cap, .func (.func 67) ⟨[]⟩ ⟨[]⟩] s (fun v A => (inB 0 20000 l = true ∧ v = .int .i64 (-1) ∧ A = []) ∨ (inB 0 20000 l = false ∧ ∃ z : Nat, v = .int .i64 (z : Int) ∧ A = [])) := by
 refine enter bw107_at rfl hs ?_
 unfold bw107
 have hlen := hl.len
 refine rS (kM rfl rfl (i_nil (rQ (rS (kM rfl rfl (kO rfl (a_lenx rfl hl.spot (kM rfl rfl (i_nil (r_block (r_loop (fun j e A => ∃ (k : Nat), e = [(0, .slice a l.length cap), (1, .func (.func 67) ⟨[]⟩ ⟨[]⟩), (7, .int .i64 (l.length : Int)), (8, .int .i64 (k : Int))] ∧ A = [] ∧ j = l.length - k ∧ k ≤ l.length ∧ inB 0 20000 l = inB 0 20000 (l.drop k)) 120 0 281474976710656 ?_ (j := _) (env2 := _) (A2 := _) ?_ ?_ ?_ ?_ ⟨0, rfl, rfl, rfl, Nat.zero_le _, rfl⟩)))))))))))
 rotate_left
 ·omega
 ·omega
 ·exact (lc 0 rfl (lc 1 rfl (lc 7 rfl (lc 8 rfl Less.nil))))
 ·exact .slnil
 rintro n hn j _ _ ⟨k, rfl, rfl, rfl, hk, hi⟩
 refine rS (kO rfl (a_lss rfl rfl (fun h1 => ?_) (fun h1 => ?_)))
 ·refine i_nil (rQ (r_cond_t rfl (r_skip (then_n (rQ (r_block (rS (kM rfl rfl (kM rfl rfl (i_nil (rS (kM rfl rfl (kM rfl rfl (kM rfl rfl (kO rfl (a_iaI (j := k) hl rfl rfl (by omega) (by simp) (by omega) (fun _ _ a2 => (kO rfl (a_ldr rfl (hl.at a2 (by omega)) (kO rfl (a_callB rfl rfl (fun s1 h1 => tooFar_s _ _ s1 h1.wf) (fun h3 => ?_) (fun h3 => ?_))))))))))))))))))))))
  ·refine i_nil (r_cond_t rfl (rS (kM rfl rfl (kM rfl rfl (i_nil (r_ret (block_r (then_r (then_r (block_r (then_r ?_)))))))))))
   first
    | exact end1 rfl (.inl ⟨in_end hi (by omega), rfl, rfl⟩)
    | exact end1 rfl (.inr ⟨in_bad (by omega) hi (by omega), k, rfl, rfl⟩)
  ·refine i_nil (r_cond_f rfl (r_skip (block_n (then_n (rI (kO rfl (a_add rfl rfl (by omega) (kM rfl rfl (i_nil (then_n ?_))))))))))
   exact ⟨rfl, _, _, _, (show l.length - (k + 1) < l.length - k by omega), (lc 0 rfl (lc 1 rfl (lc 7 rfl (lc 8 rfl Less.nil)))), .slnil, ⟨k + 1, rfl, rfl, rfl, by omega, in_good (by omega) hi (by omega)⟩⟩
 ·refine i_nil (rQ (r_cond_f rfl (r_exit (then_e (then_e (block_hit (then_n (rS (kM rfl rfl (i_nil (r_ret ?_)))))))))))
  first
   | exact end1 rfl (.inl ⟨in_end hi (by omega), rfl, rfl⟩)
   | exact end1 rfl (.inr ⟨in_bad (by omega) hi (by omega), k, rfl, rfl⟩)

theorem ContainsFunc_s (n : Nat) (a : Option Addr) (cap : Nat) (l : List Int) (s : St) (hs : Wf s) (hn : 281474976710656 ≤ n) (hl : IntsE s a l) : Spec Tryz.prog (tabK tabw) X (n + 260) 68 [.slice a l.length cap, .func (.func 67) ⟨[]⟩ ⟨[]⟩] s (fun v A => v = .bool (!inB 0 20000 l) ∧ A = []) := by
 refine enter bw68_at rfl hs ?_
 unfold bw68
 refine rS (kM rfl rfl (i_nil (rS (kM rfl rfl (kM rfl rfl (kO rfl (a_call rfl rfl (fun s1 h1 => IndexFunc_s _ _ _ _ s1 h1.wf (by omega) (hl.ext hs h1.2.1)) (fun v1 A1 q1 => ?_))))))))
 rcases q1 with ⟨hin, rfl, rfl⟩ | ⟨hin, z, rfl, rfl⟩
 ·refine kO rfl (a_geq rfl rfl (fun h => absurd h (by decide)) (fun _ => (kM rfl rfl (i_nil (r_ret (end1 rfl ⟨congrArg Value.bool ?_, rfl⟩))))))
  first | (rw [hin]; rfl) | (exfalso; omega)
 ·refine kO rfl (a_geq rfl rfl (fun h2 => ?_) (fun h2 => ?_))
  ·refine kM rfl rfl (i_nil (r_ret (end1 rfl ⟨congrArg Value.bool ?_, rfl⟩)))
   first | (rw [hin]; rfl) | (exfalso; omega)
  ·refine kM rfl rfl (i_nil (r_ret (end1 rfl ⟨congrArg Value.bool ?_, rfl⟩)))
   first | (rw [hin]; rfl) | (exfalso; omega)

theorem isHull_s (n : Nat) (d r al up : Int) (a1 a2 : Option Addr) (c1 c2 : Nat) (l1 l2 : List Int) (a : Option Addr) (cap : Nat) (M : List (List Int)) (s : St) (hs : Wf s) (hn : 844424930131968 ≤ n) (hl1 : IntsE s a1 l1) (hl2 : IntsE s a2 l2) (hT : TblE s a M) : Spec Tryz.prog (tabK tabw) X (n + 600) 31 [.agg ⟨[.int .i64 d, .int .i64 r, .slice a1 l1.length c1, .slice a2 l2.length c2, .int .i64 al, .int .i64 up]⟩, .agg ⟨[.slice a M.length cap]⟩] s (fun v A => v = .bool (decide (M.length = l1.length) && allB l2.length M) ∧ A = []) := by
 refine enter bw31_at rfl hs ?_
 unfold bw31
 have hlen1 := hl1.len
 have hlen2 := hl2.len
 have hlenT := hT.len
 refine rS (kO rfl (a_box rfl rfl rfl (fun b1 => (kO rfl (a_box rfl rfl rfl (fun b2 => (kM rfl rfl (i_nil (rQ (rS (kO rfl (a_fa rfl (kO rfl (a_ld rfl .here rfl (kO rfl (a_lenx rfl (by first | exact hT.spot | exact hli.spot) (kO rfl (a_fa rfl (kO rfl (a_ld rfl (.next .here) rfl (kO rfl (a_lenx rfl hl1.spot (kO rfl (a_neq rfl rfl (fun h3 => ?_) (fun h3 => ?_)))))))))))))))))))))))))
 ·refine i_nil (r_cond_t rfl (rS (kM rfl rfl (i_nil (r_ret (then_r (end1 rfl ⟨congrArg Value.bool ?_, rfl⟩)))))))
  first
   | (rw [decide_eq_false (by omega)]; rfl)
   | (rw [all_bad1 (by omega) hi (by omega)]; simp; done)
   | (rw [all_bad2 (by omega) hi (by simpa using (by assumption : (!inB 0 20000 (M.getD k [])) = true))]; simp; done)
   | (rw [decide_eq_true (by omega), all_end hi (by omega)]; rfl)
 ·refine i_nil (r_cond_f rfl (r_skip (then_n (rQ (rS (kO rfl (a_fa rfl (kO rfl (a_ld rfl .here rfl (kO rfl (a_lenx rfl (by first | exact hT.spot | exact hli.spot) (kM rfl rfl (i_nil (r_block (r_loop (fun j e A => ∃ (k : Nat), e = [(2, .pointer (some ⟨b1, 0, none⟩)), (16, .slice a M.length cap), (17, .int .i64 (M.length : Int)), (18, .int .i64 (k : Int))] ∧ A = (.row b1 36 false ([.int .i64 d, .int .i64 r, .slice a1 l1.length c1, .slice a2 l2.length c2, .int .i64 al, .int .i64 up]) :: []) ∧ j = M.length - k ∧ k ≤ M.length ∧ allB l2.length M = allB l2.length (M.drop k)) 400 281474976710656 281474976710656 ?_ (j := _) (env2 := _) (A2 := _) ?_ ?_ ?_ ?_ ⟨0, rfl, rfl, rfl, Nat.zero_le _, rfl⟩)))))))))))))))
  rotate_left
  ·omega
  ·omega
  ·exact (lc 2 rfl (lc 16 rfl (lc 17 rfl (lc 18 rfl Less.nil))))
  ·exact (.cons _ (.cons_cons _ .slnil))
  rintro n hn j _ _ ⟨k, rfl, rfl, rfl, hk, hi⟩
  refine rS (kO rfl (a_lss rfl rfl (fun h4 => ?_) (fun h4 => ?_)))
  ·obtain ⟨q8, o8, ai, ci, ahT, hat8, hli⟩ := hT.row k (by omega)
   have hlli := hli.len
   refine i_nil (rQ (r_cond_t rfl (r_skip (then_n (rQ (r_block (rS (kO rfl (a_iaA (j := k) ahT rfl rfl (by first | rfl | omega) (by first | decide | omega) (kO rfl (a_ldr rfl (by assumption) (kM rfl rfl (i_nil (rS (kM rfl rfl (i_nil (rS (kM rfl rfl (kO rfl (a_lenx rfl hli.spot (kO rfl (a_fa rfl (kO rfl (a_ld rfl .here rfl (kO rfl (a_lenx rfl hl2.spot (kO rfl (a_neq rfl rfl (fun h5 => ?_) (fun h5 => ?_)))))))))))))))))))))))))))))
   ·refine kM rfl rfl (i_no rfl rfl (i_no rfl rfl (i_no rfl rfl (kO rfl (a_pick_t rfl rfl rfl (i_nil (r_cond_t rfl (rS (kM rfl rfl (i_nil (r_ret (block_r (then_r (then_r (block_r (then_r (end1 rfl ⟨congrArg Value.bool ?_, rfl⟩)))))))))))))))))
    first
     | (rw [decide_eq_false (by omega)]; rfl)
     | (rw [all_bad1 (by omega) hi (by omega)]; simp; done)
     | (rw [all_bad2 (by omega) hi (by simpa using (by assumption : (!inB 0 20000 (M.getD k [])) = true))]; simp; done)
     | (rw [decide_eq_true (by omega), all_end hi (by omega)]; rfl)
   ·refine kM rfl rfl (kG rfl rfl (a_mov rfl (kG rfl rfl (a_mov rfl (kG rfl rfl (a_callb rfl rfl (fun s1 h1 => ContainsFunc_s _ _ _ _ s1 h1.wf (by omega) (hli.ext hs h1.2.1)) (fun h6 => ?_) (fun h6 => ?_)))))))
    ·refine kO rfl (a_pick_f rfl rfl rfl (i_nil (r_cond_t rfl (rS (kM rfl rfl (i_nil (r_ret (block_r (then_r (then_r (block_r (then_r (end1 rfl ⟨congrArg Value.bool ?_, rfl⟩)))))))))))))
     first
      | (rw [decide_eq_false (by omega)]; rfl)
      | (rw [all_bad1 (by omega) hi (by omega)]; simp; done)
      | (rw [all_bad2 (by omega) hi (by simpa using (by assumption : (!inB 0 20000 (M.getD k [])) = true))]; simp; done)
      | (rw [decide_eq_true (by omega), all_end hi (by omega)]; rfl)
    ·refine kO rfl (a_pick_f rfl rfl rfl (i_nil (r_cond_f rfl (r_skip (block_n (then_n (rI (kO rfl (a_add rfl rfl (by omega) (kM rfl rfl (i_nil (then_n ?_))))))))))))
     exact ⟨rfl, _, _, _, (show M.length - (k + 1) < M.length - k by omega), (lc 2 rfl (lc 16 rfl (lc 17 rfl (lc 18 rfl Less.nil)))), (.cons_cons _ .slnil), ⟨k + 1, rfl, rfl, rfl, by omega, all_good (by omega) hi (by omega) (by simpa using (by assumption : (!inB 0 20000 (M.getD k [])) = false))⟩⟩
  ·refine i_nil (rQ (r_cond_f rfl (r_exit (then_e (then_e (block_hit (then_n (rS (kM rfl rfl (i_nil (r_ret (end1 rfl ⟨congrArg Value.bool ?_, rfl⟩))))))))))))
   first
    | (rw [decide_eq_false (by omega)]; rfl)
    | (rw [all_bad1 (by omega) hi (by omega)]; simp; done)
    | (rw [all_bad2 (by omega) hi (by simpa using (by assumption : (!inB 0 20000 (M.getD k [])) = true))]; simp; done)
    | (rw [decide_eq_true (by omega), all_end hi (by omega)]; rfl)

theorem weighs_s (n : Nat) (a : Option Addr) (cap : Nat) (l : List Int) (s : St) (hs : Wf s) (hn : 281474976710656 ≤ n) (hl : IntsE s a l) (h65 : l.length ≤ 65) : Spec Tryz.prog (tabK tabw) X (n + 200) 72 [.slice a l.length cap] s (fun v A => v = .bool (wgB l) ∧ A = []) := by
 refine enter bw72_at rfl hs ?_
 unfold bw72
 have hlen := hl.len
 refine rS (kM rfl rfl (i_nil (rS (kM rfl rfl (i_nil (rQ (rS (kM rfl rfl (kO rfl (a_lenx rfl hl.spot (kM rfl rfl (i_nil (r_block (r_loop (fun j e A => ∃ (k : Nat), e = [(3, .int .i64 (3600000000000 - tobP l k)), (6, .slice a l.length cap), (7, .int .i64 (l.length : Int)), (8, .int .i64 (k : Int))] ∧ A = [] ∧ j = l.length - k ∧ k ≤ l.length ∧ 0 ≤ tobP l k ∧ tobP l k ≤ 3600000000000) 120 0 281474976710656 ?_ (j := _) (env2 := _) (A2 := _) ?_ ?_ ?_ ?_ ⟨0, rfl, rfl, rfl, Nat.zero_le _, (by show 0 ≤ (0 : Int) ∧ (0 : Int) ≤ 3600000000000; decide)⟩))))))))))))))
 rotate_left
 ·omega
 ·omega
 ·exact (lc 3 rfl (lc 6 rfl (lc 7 rfl (lc 8 rfl Less.nil))))
 ·exact .slnil
 rintro n hn j _ _ ⟨k, rfl, rfl, rfl, hk, hb⟩
 refine rS (kO rfl (a_lss rfl rfl (fun h1 => ?_) (fun h1 => ?_)))
 ·refine i_nil (rQ (r_cond_t rfl (r_skip (then_n (rQ (r_block (rS (kO rfl (a_iaI (j := k) hl rfl rfl (by omega) (by simp) (by omega) (fun _ _ a2 => (kO rfl (a_ldr rfl (hl.at a2 (by omega)) (kM rfl rfl (i_nil (rQ (rS (kM rfl rfl (kM rfl rfl (kO rfl (a_neg rfl (by omega) (kM rfl rfl (kO rfl (a_callB rfl rfl (fun s1 h1 => binside_s _ _ _ _ s1 h1.wf) (fun h3 => ?_) (fun h3 => ?_))))))))))))))))))))))))
  ·refine kO rfl (a_not rfl (i_nil (r_cond_f rfl (r_skip (then_n (rI (kM rfl rfl (kM rfl rfl (kM rfl rfl (kO rfl (a_neg rfl (by omega) (kO rfl (a_max rfl (kO rfl (a_sub rfl rfl (by omega) (kM rfl rfl (i_nil (block_n (then_n (rI (kO rfl (a_add rfl rfl (by omega) (kM rfl rfl (i_nil (then_n ?_)))))))))))))))))))))))))
   exact ⟨rfl, _, _, _, (show l.length - (k + 1) < l.length - k by omega), (lc 3 rfl (lc 6 rfl (lc 7 rfl (lc 8 rfl Less.nil)))), .slnil, ⟨k + 1, (by rw [show (3600000000000 - tobP l (k + 1) : Int) = 3600000000000 - tobP l k - max (l.getD k 0) (-(l.getD k 0)) from by (show 3600000000000 - (tobP l k + iab (l.getD k 0)) = _; unfold iab; omega)]; rfl), rfl, rfl, by omega, (by show 0 ≤ tobP l k + iab (l.getD k 0) ∧ tobP l k + iab (l.getD k 0) ≤ 3600000000000; unfold iab; omega)⟩⟩
  ·refine kO rfl (a_not rfl (i_nil (r_cond_t rfl (rS (kM rfl rfl (i_nil (r_ret (then_r (block_r (then_r (then_r (block_r (then_r (end1 rfl ⟨congrArg Value.bool ?_, rfl⟩))))))))))))))
   first | exact (wg_bad (k := k) (by omega) (by omega)).symm | exact (wg_end (k := k) (by omega) (by omega)).symm
 ·refine i_nil (rQ (r_cond_f rfl (r_exit (then_e (then_e (block_hit (then_n (rS (kM rfl rfl (i_nil (r_ret (end1 rfl ⟨congrArg Value.bool ?_, rfl⟩))))))))))))
  first | exact (wg_bad (k := k) (by omega) (by omega)).symm | exact (wg_end (k := k) (by omega) (by omega)).symm

theorem allInside_s (n : Nat) (a : Option Addr) (cap : Nat) (l : List Int) (m : Int) (s : St) (hs : Wf s) (hn : 281474976710656 ≤ n) (hl : IntsE s a l) (hm : 0 ≤ m ∧ m ≤ 1000000000) : Spec Tryz.prog (tabK tabw) X (n + 200) 73 [.slice a l.length cap, .int .i64 m] s (fun v A => v = .bool (inB (-m) m l) ∧ A = []) := by
 refine enter bw73_at rfl hs ?_
 unfold bw73
 have hlen := hl.len
 refine rS (kM rfl rfl (i_nil (rQ (rS (kM rfl rfl (kO rfl (a_lenx rfl hl.spot (kM rfl rfl (i_nil (r_block (r_loop (fun j e A => ∃ (k : Nat), e = [(1, .int .i64 m), (7, .slice a l.length cap), (8, .int .i64 (l.length : Int)), (9, .int .i64 (k : Int))] ∧ A = [] ∧ j = l.length - k ∧ k ≤ l.length ∧ inB (-m) m l = inB (-m) m (l.drop k)) 120 0 281474976710656 ?_ (j := _) (env2 := _) (A2 := _) ?_ ?_ ?_ ?_ ⟨0, rfl, rfl, rfl, Nat.zero_le _, rfl⟩)))))))))))
 rotate_left
 ·omega
 ·omega
 ·exact (lc 1 rfl (lc 7 rfl (lc 8 rfl (lc 9 rfl Less.nil))))
 ·exact .slnil
 rintro n hn j _ _ ⟨k, rfl, rfl, rfl, hk, hi⟩
 refine rS (kO rfl (a_lss rfl rfl (fun h1 => ?_) (fun h1 => ?_)))
 ·refine i_nil (rQ (r_cond_t rfl (r_skip (then_n (rQ (r_block (rS (kO rfl (a_iaI (j := k) hl rfl rfl (by omega) (by simp) (by omega) (fun _ _ a2 => (kO rfl (a_ldr rfl (hl.at a2 (by omega)) (kM rfl rfl (i_nil (rS (kM rfl rfl (kM rfl rfl (kO rfl (a_neg rfl (by omega) (kM rfl rfl (kO rfl (a_callB rfl rfl (fun s1 h1 => binside_s _ _ _ _ s1 h1.wf) (fun h3 => ?_) (fun h3 => ?_)))))))))))))))))))))))
  ·refine kO rfl (a_not rfl (i_nil (r_cond_f rfl (r_skip (block_n (then_n (rI (kO rfl (a_add rfl rfl (by omega) (kM rfl rfl (i_nil (then_n ?_))))))))))))
   exact ⟨rfl, _, _, _, (show l.length - (k + 1) < l.length - k by omega), (lc 1 rfl (lc 7 rfl (lc 8 rfl (lc 9 rfl Less.nil)))), .slnil, ⟨k + 1, rfl, rfl, rfl, by omega, in_good (by omega) hi (by omega)⟩⟩
  ·refine kO rfl (a_not rfl (i_nil (r_cond_t rfl (rS (kM rfl rfl (i_nil (r_ret (block_r (then_r (then_r (block_r (then_r (end1 rfl ⟨congrArg Value.bool ?_, rfl⟩)))))))))))))
   first | exact (in_bad (by omega) hi (by omega)).symm | exact (in_end hi (by omega)).symm
 ·refine i_nil (rQ (r_cond_f rfl (r_exit (then_e (then_e (block_hit (then_n (rS (kM rfl rfl (i_nil (r_ret (end1 rfl ⟨congrArg Value.bool ?_, rfl⟩))))))))))))
  first | exact (in_bad (by omega) hi (by omega)).symm | exact (in_end hi (by omega)).symm

theorem bValue_s (n : Nat) (a1 a2 : Option Addr) (c1 c2 : Nat) (w x : List Int) (s : St) (hs : Wf s) (hn : 562949953421312 ≤ n) (hl1 : IntsE s a1 w) (hl2 : IntsE s a2 x) : Spec Tryz.prog (tabK tabw) X (n + 400) 33 [.slice a1 w.length c1, .slice a2 x.length c2] s (fun v A => (((w.length : Int) ≤ 65 ∧ wgB w = true) ∧ (x.length = w.length ∧ inB (-1280000) 1280000 x = true) ∧ v = .tuple #[.int .i64 (dotP w x w.length), .int .i64 0] ∧ A = []) ∨ (¬ ((w.length : Int) ≤ 65 ∧ wgB w = true) ∧ v = .tuple #[.int .i64 0, .int .i64 27] ∧ A = []) ∨ (((w.length : Int) ≤ 65 ∧ wgB w = true) ∧ ¬ (x.length = w.length ∧ inB (-1280000) 1280000 x = true) ∧ v = .tuple #[.int .i64 0, .int .i64 25] ∧ A = [])) := by
 refine enter bw33_at rfl hs ?_
 unfold bw33
 have hlen1 := hl1.len
 have hlen2 := hl2.len
 refine rS (kM rfl rfl (kM rfl rfl (i_nil (rQ (rS (kM rfl rfl (kO rfl (a_lenx rfl hl1.spot (kO rfl (a_gtr rfl rfl (fun h1 => ?_) (fun h1 => ?_)))))))))))
 ·refine kM rfl rfl (i_no rfl rfl (i_no rfl rfl (i_no rfl rfl (kO rfl (a_pick_t rfl rfl rfl (i_nil (r_cond_t rfl (rS (kM rfl rfl (kM rfl rfl (i_nil (r_ret (then_r ?_)))))))))))))
  exact end2 rfl rfl (.inr (.inl ⟨fun q => by obtain ⟨q1, q2⟩ := q; first | omega | (simp_all; done), rfl, rfl⟩))
 ·refine kM rfl rfl (kG rfl rfl (a_mov rfl (kG rfl rfl (a_callb rfl rfl (fun s1 h1 => weighs_s _ _ _ _ s1 h1.wf (by omega) (hl1.ext hs h1.2.1) (by omega)) (fun h2 => ?_) (fun h2 => ?_)))))
  ·have hwg := h2
   refine kG rfl rfl (a_not rfl (kO rfl (a_pick_f rfl rfl rfl (i_nil (r_cond_f rfl (r_skip (then_n (rQ (rS (kM rfl rfl (kO rfl (a_lenx rfl hl2.spot (kM rfl rfl (kO rfl (a_lenx rfl hl1.spot (kO rfl (a_neq rfl rfl (fun h3 => ?_) (fun h3 => ?_))))))))))))))))))
   ·refine kM rfl rfl (i_no rfl rfl (i_no rfl rfl (i_no rfl rfl (kO rfl (a_pick_t rfl rfl rfl (i_nil (r_cond_t rfl (rS (kM rfl rfl (kM rfl rfl (i_nil (r_ret (then_r ?_)))))))))))))
    exact end2 rfl rfl (.inr (.inr ⟨⟨by omega, by simp_all⟩, fun q => by obtain ⟨q1, q2⟩ := q; first | omega | (simp_all; done), rfl, rfl⟩))
   ·refine kM rfl rfl (kG rfl rfl (a_mov rfl (kG rfl rfl (a_callb rfl rfl (fun s1 h1 => allInside_s _ _ _ _ _ s1 h1.wf (by omega) (hl2.ext hs h1.2.1) (by decide)) (fun h4 => ?_) (fun h4 => ?_)))))
    ·have hxi := h4
     have hwt := of_decide_eq_true hwg
     refine kG rfl rfl (a_not rfl (kO rfl (a_pick_f rfl rfl rfl (i_nil (r_cond_f rfl (r_skip (then_n (rS (kM rfl rfl (i_nil (rQ (rS (kM rfl rfl (kO rfl (a_lenx rfl hl1.spot (kM rfl rfl (i_nil (r_block (r_loop (fun j e A => ∃ (k : Nat), e = [(1, .slice a2 x.length c2), (6, .int .i64 (dotP w x k)), (27, .slice a1 w.length c1), (28, .int .i64 (w.length : Int)), (29, .int .i64 (k : Int))] ∧ A = [] ∧ j = w.length - k ∧ k ≤ w.length) 200 0 281474976710656 ?_ (j := _) (env2 := _) (A2 := _) ?_ ?_ ?_ ?_ ⟨0, rfl, rfl, rfl, Nat.zero_le _⟩)))))))))))))))))))
     rotate_left
     ·omega
     ·omega
     ·exact (lc 1 rfl (lc 6 rfl (lc 27 rfl (lc 28 rfl (lc 29 rfl Less.nil)))))
     ·exact .slnil
     rintro n hn j _ _ ⟨k, rfl, rfl, rfl, hk⟩
     have hd0 := dot_bd hxi (show x.length = w.length by omega) (k := k) hk
     have ht0 := tob_le (w := w) hk
     refine rS (kO rfl (a_lss rfl rfl (fun h5 => ?_) (fun h5 => ?_)))
     ·refine i_nil (rQ (r_cond_t rfl (r_skip (then_n (rQ (r_block (rS (kM rfl rfl (kO rfl (a_iaI (j := k) hl1 rfl rfl (by omega) (by simp) (by omega) (fun _ _ a6 => (kO rfl (a_ldr rfl (hl1.at a6 (by omega)) (kM rfl rfl (kM rfl rfl (i_nil (rI (kM rfl rfl (kM rfl rfl (kM rfl rfl (kM rfl rfl (kO rfl (a_iaI (j := k) hl2 rfl rfl (by omega) (by simp) (by omega) (fun _ _ a7 => (kO rfl (a_ldr rfl (hl2.at a7 (by omega)) ?_))))))))))))))))))))))))))
      have hd1 := dot_bd hxi (show x.length = w.length by omega) (k := k + 1) (by omega)
      have ht1 := tob_le (w := w) (a := k + 1) (b := w.length) (by omega)
      have hd2 : dotP w x (k + 1) = dotP w x k + w.getD k 0 * x.getD k 0 := rfl
      refine kO rfl (a_mul rfl rfl (by omega) (kO rfl (a_add rfl rfl (by omega) (kM rfl rfl (i_nil (block_n (then_n (rI (kO rfl (a_add rfl rfl (by omega) (kM rfl rfl (i_nil (then_n ?_)))))))))))))
      exact ⟨rfl, _, _, _, (show w.length - (k + 1) < w.length - k by omega), (lc 1 rfl (lc 6 rfl (lc 27 rfl (lc 28 rfl (lc 29 rfl Less.nil))))), .slnil, ⟨k + 1, rfl, rfl, rfl, by omega⟩⟩
     ·refine i_nil (rQ (r_cond_f rfl (r_exit (then_e (then_e (block_hit (then_n (rS (kM rfl rfl (kM rfl rfl (kM rfl rfl (i_nil (r_ret ?_)))))))))))))
      have hkw : k = w.length := by omega
      subst hkw
      exact end2 rfl rfl (.inl ⟨⟨by omega, hwg⟩, ⟨by omega, hxi⟩, rfl, rfl⟩)
    ·refine kG rfl rfl (a_not rfl (kO rfl (a_pick_f rfl rfl rfl (i_nil (r_cond_t rfl (rS (kM rfl rfl (kM rfl rfl (i_nil (r_ret (then_r ?_)))))))))))
     exact end2 rfl rfl (.inr (.inr ⟨⟨by omega, by simp_all⟩, fun q => by obtain ⟨q1, q2⟩ := q; first | omega | (simp_all; done), rfl, rfl⟩))
  ·refine kG rfl rfl (a_not rfl (kO rfl (a_pick_f rfl rfl rfl (i_nil (r_cond_t rfl (rS (kM rfl rfl (kM rfl rfl (i_nil (r_ret (then_r ?_)))))))))))
   exact end2 rfl rfl (.inr (.inl ⟨fun q => by obtain ⟨q1, q2⟩ := q; first | omega | (simp_all; done), rfl, rfl⟩))

end
end Ev
end Go.Proofs.YtonbhokaeodmdaaGreat
