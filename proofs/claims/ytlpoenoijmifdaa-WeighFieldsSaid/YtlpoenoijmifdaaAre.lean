import Derived.Test.YtlpoenoijmifdaaOrd
set_option linter.unusedVariables false
set_option linter.unusedSimpArgs false
namespace Go.Proofs.Ytlpoenoijmifdaa
open Go.RowKit Go.Shelf

def areaV (xs ys : List Int) : Int := if ordE xs ys = 0 then dot xs ys else 0
def momE (xs ys : List Int) (about : Int) : Int := if ordE xs ys = 0 then (if 0 ≤ about ∧ about ≤ 100000 then 0 else 1) else ordE xs ys
def momV (xs ys : List Int) (about : Int) : Int := if momE xs ys about = 0 then dot xs (levL xs ys about) else 0
def cenF (xs ys : List Int) : Int × Int × Int := if ordE xs ys = 0 then (if dot xs ys = 0 then (0, 0, 3) else mk (dot xs (levL xs ys 0)) (dot xs ys)) else (0, 0, ordE xs ys)

theorem ret_ii {a b c d : Int} (h1 : a = b) (h2 : c = d) : Ending.returned (.tuple #[.int .i64 a, .int .i64 c]) = .returned (.tuple #[.int .i64 b, .int .i64 d]) := by rw [h1, h2]

theorem lim_more {M N : Int} {l : List Int} (h : Lim M l) (hN : M ≤ N) : Lim N l := fun i => by have := h i; omega

set_option maxHeartbeats 1000000 in
theorem Area_w (a1 a2 : Option Addr) (n1 n2 c1 c2 : Nat) (xs ys : List Int) (w : World) (i1 : IsL w (.slice a1 n1 c1) xs) (i2 : IsL w (.slice a2 n2 c2) ys) :
    Calls Try.prog 41 #[.slice a1 n1 c1, .slice a2 n2 c2] w fun e w' => e = .returned (.tuple #[.int .i64 (areaV xs ys), .int .i64 (ordE xs ys)]) ∧ Below w.heap.size w w' := by
  have HO := hide (ords_w a1 a2 n1 n2 c1 c2 xs ys w i1 i2)
  by_cases h0 : ordE xs ys = 0
  · obtain ⟨hp, hl, hy⟩ := ord_zero h0
    have hi := fun k : Nat => integrate_w a1 a2 n1 n2 c1 c2 xs ys (w.drewN k) (i1.drewN k) (i2.drewN k) hp hl.symm (lim_more hy (by omega))
    have HI := hide hi; clear hi
    have e2 : Hid (areaV xs ys = dot xs ys) := by show _ = _; unfold areaV; rw [if_pos h0]
    clear hl
    go_enter Try.func41, Try.ntmps41
    go_wp2_with (first | (go_at_call 73; refine HO.out.mono ?_; rintro e w' ⟨rfl, k, rfl⟩) | (go_at_call 74; refine (HI.out _).mono ?_; rintro e w1 ⟨rfl, hb⟩))
    go_ret2
    exact ⟨ret_ii e2.out.symm h0.symm, (below_drewN (Below.refl _ _) _).trans hb⟩
  · have e2 : Hid (areaV xs ys = 0) := by show _ = _; unfold areaV; rw [if_neg h0]
    have d0 : (ordE xs ys != 0) = true := by simpa using h0
    clear h0
    go_enter Try.func41, Try.ntmps41
    go_wp2_with (go_at_call 73; refine HO.out.mono ?_; rintro e w' ⟨rfl, k, rfl⟩)
    go_ret2
    exact ⟨ret_ii e2.out.symm rfl, below_drewN (Below.refl _ _) _⟩

set_option maxHeartbeats 1000000 in
theorem Moment_w (a1 a2 : Option Addr) (n1 n2 c1 c2 : Nat) (xs ys : List Int) (about : Int) (w : World) (i1 : IsL w (.slice a1 n1 c1) xs) (i2 : IsL w (.slice a2 n2 c2) ys) (_hf : FB about) :
    Calls Try.prog 43 #[.slice a1 n1 c1, .slice a2 n2 c2, .int .i64 about] w fun e w' => e = .returned (.tuple #[.int .i64 (momV xs ys about), .int .i64 (momE xs ys about)]) ∧ Below w.heap.size w w' := by
  have HO := hide (ords_w a1 a2 n1 n2 c1 c2 xs ys w i1 i2)
  by_cases h0 : ordE xs ys = 0
  · obtain ⟨hp, hl, hy⟩ := ord_zero h0
    by_cases hb0 : about < 0
    · have e2 : Hid (momE xs ys about = 1) := by show _ = _; unfold momE; rw [if_pos h0, if_neg (by omega)]
      have e3 : Hid (momV xs ys about = 0) := by show _ = _; unfold momV; rw [e2.out]; rfl
      clear hl
      go_enter Try.func43, Try.ntmps43
      go_wp2_with (go_at_call 73; refine HO.out.mono ?_; rintro e w' ⟨rfl, k, rfl⟩)
      go_ret2
      exact ⟨ret_ii e3.out.symm e2.out.symm, below_drewN (Below.refl _ _) _⟩
    by_cases hb1 : 100000 < about
    · have e2 : Hid (momE xs ys about = 1) := by show _ = _; unfold momE; rw [if_pos h0, if_neg (by omega)]
      have e3 : Hid (momV xs ys about = 0) := by show _ = _; unfold momV; rw [e2.out]; rfl
      clear hl
      go_enter Try.func43, Try.ntmps43
      go_wp2_with (go_at_call 73; refine HO.out.mono ?_; rintro e w' ⟨rfl, k, rfl⟩)
      go_ret2
      exact ⟨ret_ii e3.out.symm e2.out.symm, below_drewN (Below.refl _ _) _⟩
    · have e2 : Hid (momE xs ys about = 0) := by show _ = _; unfold momE; rw [if_pos h0, if_pos (by omega)]
      have e3 : Hid (momV xs ys about = dot xs (levL xs ys about)) := by show _ = _; unfold momV; rw [if_pos e2.out]
      have hlv := fun k : Nat => levers_w a1 a2 n1 n2 c1 c2 xs ys about (w.drewN k) (i1.drewN k) (i2.drewN k) hp hl hy (by omega) (by omega)
      have HLV := hide hlv; clear hlv
      have hin := fun (w' : World) (a3 : Option Addr) (n3 c3 : Nat) (hb : Below w.heap.size w w') (i3 : IsL w' (.slice a3 n3 c3) (levL xs ys about)) => integrate_w a1 a3 n1 n3 c1 c3 xs (levL xs ys about) w' (i1.below hb) i3 hp (levL_len _ _ _) (levL_lim hp hy (by omega) (by omega))
      have HIN := hide hin; clear hin
      clear hl
      go_enter Try.func43, Try.ntmps43
      go_wp2_with (first | (go_at_call 73; refine HO.out.mono ?_; rintro e w' ⟨rfl, k, rfl⟩) | (go_at_call 76; refine (HLV.out _).mono ?_; rintro e w1 ⟨v, rfl, hv, hb⟩; obtain ⟨a3, c3, rfl, _⟩ := id hv; have hb' : Below w.heap.size w w1 := (below_drewN (Below.refl _ _) _).trans hb) | (go_at_call 74; refine (HIN.out w1 _ _ _ hb' hv).mono ?_; rintro e w2 ⟨rfl, hb2⟩))
      go_ret2
      exact ⟨ret_ii e3.out.symm e2.out.symm, back hb' hb2⟩
  · have e2 : Hid (momE xs ys about = ordE xs ys) := by show _ = _; unfold momE; rw [if_neg h0]
    have e3 : Hid (momV xs ys about = 0) := by show _ = _; unfold momV; rw [e2.out, if_neg h0]
    have d0 : (ordE xs ys != 0) = true := by simpa using h0
    clear h0
    go_enter Try.func43, Try.ntmps43
    go_wp2_with (go_at_call 73; refine HO.out.mono ?_; rintro e w' ⟨rfl, k, rfl⟩)
    go_ret2
    exact ⟨ret_ii e3.out.symm e2.out.symm, below_drewN (Below.refl _ _) _⟩

set_option maxHeartbeats 1000000 in
theorem Centre_w {p q r : Int} (xs ys : List Int) (hc : Hid (cenF xs ys = (p, q, r))) (a1 a2 : Option Addr) (n1 n2 c1 c2 : Nat) (w : World) (i1 : IsL w (.slice a1 n1 c1) xs) (i2 : IsL w (.slice a2 n2 c2) ys) :
    Calls Try.prog 45 #[.slice a1 n1 c1, .slice a2 n2 c2] w fun e w' => e = .returned (.tuple #[.agg #[.int .i64 p, .int .i64 q], .int .i64 r]) ∧ Below w.heap.size w w' := by
  have ho := fun o => ords_w a1 a2 n1 n2 c1 c2 xs ys (w.alloc o) (i1.below ((Below.refl _ _).alloc (Nat.le_refl _) _)) (i2.below ((Below.refl _ _).alloc (Nat.le_refl _) _))
  have HO := hide ho; clear ho
  by_cases h0 : ordE xs ys = 0
  · obtain ⟨hp, hl, hy⟩ := ord_zero h0
    have hin := fun (w' : World) (a3 : Option Addr) (n3 c3 : Nat) (vs : List Int) (hb : Below w.heap.size w w') (i3 : IsL w' (.slice a3 n3 c3) vs) (hl3 : vs.length = xs.length) (hv3 : Lim 2000000000 vs) => integrate_w a1 a3 n1 n3 c1 c3 xs vs w' (i1.below hb) i3 hp hl3 hv3
    have HIN := hide hin; clear hin
    have hd := dot_lim hp (lim_more hy (show (20000 : Int) ≤ 2000000000 by omega))
    have hd2 := dot_lim hp (levL_lim hp hy (about := 0) (by omega) (by omega))
    obtain ⟨hd1a, hd1b⟩ := hd
    obtain ⟨hd2a, hd2b⟩ := hd2
    by_cases hz : dot xs ys = 0
    · have hk : (p, q, r) = ((0 : Int), (0 : Int), (3 : Int)) := by have := hc.out; unfold cenF at this; rw [if_pos h0, if_pos hz] at this; exact this.symm
      simp only [Prod.mk.injEq] at hk
      obtain ⟨rfl, rfl, rfl⟩ := hk
      have HL := hide hl; clear hl
      go_enter Try.func45, Try.ntmps45
      go_wp2_with (first | (go_at_call 73; refine (HO.out _).mono ?_; rintro e w' ⟨rfl, k, rfl⟩) | (go_at_call 74; refine (HIN.out _ _ _ _ _ (by repeat (first | exact Below.refl _ _ | assumption | refine Below.alloc ?_ (by first | omega | (simp; omega) | simp) _ | refine Below.setCell ?_ (by first | omega | (simp; omega) | simp) _ | refine below_drewN ?_ _ | refine Below.drew ?_ | refine back ?_ (by assumption))) (IsL.drewN (i2.below (by repeat (first | exact Below.refl _ _ | assumption | refine Below.alloc ?_ (by first | omega | (simp; omega) | simp) _ | refine Below.setCell ?_ (by first | omega | (simp; omega) | simp) _ | refine below_drewN ?_ _ | refine Below.drew ?_ | refine back ?_ (by assumption)))) _) HL.out.symm (lim_more hy (by omega))).mono ?_; rintro e w1 ⟨rfl, hb1⟩; obtain ⟨hc1, hf1⟩ := bcell hb1; have hz1 := hb1.size; (try simp at hz1); have hs1_0 : w.heap.size < w1.heap.size := (by omega)))
      refine bodyPost_ret (v := .tuple #[.agg #[.int .i64 0, .int .i64 0], .int .i64 3]) (by simp [results, Try.results45, go_sem, hc1, hs1_0]) rfl ⟨rfl, (by repeat (first | exact Below.refl _ _ | assumption | refine Below.alloc ?_ (by first | omega | (simp; omega) | simp) _ | refine Below.setCell ?_ (by first | omega | (simp; omega) | simp) _ | refine below_drewN ?_ _ | refine Below.drew ?_ | refine back ?_ (by assumption)))⟩
    · have hk : Hid (mk (dot xs (levL xs ys 0)) (dot xs ys) = (p, q, r)) := by have := hc.out; unfold cenF at this; rw [if_pos h0, if_neg hz] at this; exact this
      have d0 : (dot xs ys == 0) = false := by simpa using hz
      have HL := hide hl; clear hl hz
      go_enter Try.func45, Try.ntmps45
      go_wp2_with (go_at_call 73; refine (HO.out _).mono ?_; rintro e w' ⟨rfl, k, rfl⟩)
      refine (HIN.out _ _ _ _ _ (by repeat (first | exact Below.refl _ _ | assumption | refine Below.alloc ?_ (by first | omega | (simp; omega) | simp) _ | refine Below.setCell ?_ (by first | omega | (simp; omega) | simp) _ | refine below_drewN ?_ _ | refine Below.drew ?_ | refine back ?_ (by assumption))) (IsL.drewN (i2.below (by repeat (first | exact Below.refl _ _ | assumption | refine Below.alloc ?_ (by first | omega | (simp; omega) | simp) _ | refine Below.setCell ?_ (by first | omega | (simp; omega) | simp) _ | refine below_drewN ?_ _ | refine Below.drew ?_ | refine back ?_ (by assumption)))) _) HL.out.symm (lim_more hy (by omega))).mono ?_
      rintro e w1 ⟨rfl, hb1⟩; obtain ⟨hc1, hf1⟩ := bcell hb1; have hz1 := hb1.size; (try simp at hz1); have hs1_0 : w.heap.size < w1.heap.size := (by omega)
      go_wp2_with fail
      have hb3 : Below w.heap.size w w1 := (by repeat (first | exact Below.refl _ _ | assumption | refine Below.alloc ?_ (by first | omega | (simp; omega) | simp) _ | refine Below.setCell ?_ (by first | omega | (simp; omega) | simp) _ | refine below_drewN ?_ _ | refine Below.drew ?_ | refine back ?_ (by assumption)))
      refine (levers_w a1 a2 n1 n2 c1 c2 xs ys 0 w1 (i1.below hb3) (i2.below hb3) hp HL.out hy (by omega) (by omega)).mono ?_
      rintro e w2 ⟨v, rfl, hv, hb2⟩
      obtain ⟨a3, c3, rfl, _⟩ := id hv
      have hb4 : Below w.heap.size w w2 := back hb3 hb2
      obtain ⟨hc2, hf2⟩ := bcell hb2
      have hz2 := hb2.size
      have hs2_0 : w.heap.size < w2.heap.size := by omega
      go_wp2_with fail
      refine (HIN.out _ _ _ _ _ hb4 hv (levL_len _ _ _) (levL_lim hp hy (by omega) (by omega))).mono ?_
      rintro e w3 ⟨rfl, hb5⟩
      have hb6 : Below w.heap.size w w3 := back hb4 hb5
      obtain ⟨hc3, hf3⟩ := bcell hb5
      have hz3 := hb5.size
      have hs3_0 : w.heap.size < w3.heap.size := by omega
      go_wp2_with (go_at_call 12; refine (make_c hk _ ⟨by omega, by omega⟩ ⟨by omega, by omega⟩).mono ?_; rintro e w4 ⟨rfl, hb7⟩; obtain ⟨hc4, hf4⟩ := bcell hb7; have hz4 := hb7.size; have hs4_0 : w.heap.size < w4.heap.size := (by omega))
      have hb8 : Below w.heap.size w w4 := back hb6 hb7
      refine bodyPost_ret (v := .tuple #[.agg #[.int .i64 p, .int .i64 q], .int .i64 r]) (by simp [results, Try.results45, go_sem, hc4, hc3, hc2, hc1, hs4_0, hs3_0, hs2_0, hs1_0]) rfl ⟨rfl, (by repeat (first | exact Below.refl _ _ | assumption | refine Below.alloc ?_ (by first | omega | (simp; omega) | simp) _ | refine Below.setCell ?_ (by first | omega | (simp; omega) | simp) _ | refine below_drewN ?_ _ | refine Below.drew ?_ | refine back ?_ (by assumption)))⟩
  · have hk : (p, q, r) = ((0 : Int), (0 : Int), ordE xs ys) := by have := hc.out; unfold cenF at this; rw [if_neg h0] at this; exact this.symm
    simp only [Prod.mk.injEq] at hk
    obtain ⟨rfl, rfl, rfl⟩ := hk
    have d0 : (ordE xs ys != 0) = true := by simpa using h0
    clear h0 hc
    go_enter Try.func45, Try.ntmps45
    go_wp2_with (go_at_call 73; refine (HO.out _).mono ?_; rintro e w' ⟨rfl, k, rfl⟩)
    refine bodyPost_ret (v := .tuple #[.agg #[.int .i64 0, .int .i64 0], .int .i64 (ordE xs ys)]) (by simp [results, Try.results45, go_sem]) rfl ⟨rfl, (by repeat (first | exact Below.refl _ _ | assumption | refine Below.alloc ?_ (by first | omega | (simp; omega) | simp) _ | refine Below.setCell ?_ (by first | omega | (simp; omega) | simp) _ | refine below_drewN ?_ _ | refine Below.drew ?_ | refine back ?_ (by assumption)))⟩
end Go.Proofs.Ytlpoenoijmifdaa
