import Derived.Test.YtijakfkgcloplaaAra
set_option linter.unusedVariables false
set_option linter.unusedSimpArgs false
namespace Go.Proofs.Ytijakfkgcloplaa
open Go.RowKit Go.Shelf

set_option maxHeartbeats 1000000 in
theorem rMoment_w (a1 a2 : Option Addr) (n1 n2 c1 c2 : Nat) (xs ys : List Int) (about : Int) (w : World) (i1 : IsL w (.slice a1 n1 c1) xs) (i2 : IsL w (.slice a2 n2 c2) ys) (_hf : FB about) :
    Calls Try.prog 44 #[.slice a1 n1 c1, .slice a2 n2 c2, .int .i64 about] w fun e w' => e = .returned (.tuple #[.int .i64 (momV xs ys about), .int .i64 (momE xs ys about)]) ∧ Below w.heap.size w w' := by
  have HO := hide (rords_w a1 a2 n1 n2 c1 c2 xs ys w i1 i2)
  by_cases h0 : ordE xs ys = 0
  · obtain ⟨hp, hl, hy⟩ := ord_zero h0
    by_cases hb0 : about < 0
    · have e2 : Hid (momE xs ys about = 1) := by show _ = _; unfold momE; rw [if_pos h0, if_neg (by omega)]
      have e3 : Hid (momV xs ys about = 0) := by show _ = _; unfold momV; rw [e2.out]; rfl
      clear hl
      go_enter Try.func44, Try.ntmps44
      go_wp2_with (go_at_call 75; refine HO.out.mono ?_; rintro e w' ⟨rfl, k, rfl⟩)
      go_ret2
      exact ⟨ret_ii e3.out.symm e2.out.symm, below_drewN (Below.refl _ _) _⟩
    by_cases hb1 : 100000 < about
    · have e2 : Hid (momE xs ys about = 1) := by show _ = _; unfold momE; rw [if_pos h0, if_neg (by omega)]
      have e3 : Hid (momV xs ys about = 0) := by show _ = _; unfold momV; rw [e2.out]; rfl
      clear hl
      go_enter Try.func44, Try.ntmps44
      go_wp2_with (go_at_call 75; refine HO.out.mono ?_; rintro e w' ⟨rfl, k, rfl⟩)
      go_ret2
      exact ⟨ret_ii e3.out.symm e2.out.symm, below_drewN (Below.refl _ _) _⟩
    have hi := fun k : Nat => rweights_w a1 n1 c1 xs (w.drewN k) (i1.drewN k) hp
    have HI := hide hi; clear hi
    have e2 : Hid (momE xs ys about = 0) := by show _ = _; unfold momE; rw [if_pos h0, if_pos (by omega)]
    have e3 : Hid (momV xs ys about = ipN (wts xs) (levL xs ys about) xs.length) := by show _ = _; unfold momV; rw [if_pos e2.out, dot_ip _ hp]
    have HL := hide hl; have HP := hide hp; have HY := hide hy; have h9 := hp.hi; have h2 := hp.lo; have H2 := hide i2; have H1 := hide i1
    clear hl hp hy i1 i2
    go_enter Try.func44, Try.ntmps44
    go_wp2_with (first | (go_at_call 75; refine HO.out.mono ?_; rintro e w' ⟨rfl, k, rfl⟩) | (go_at_call 70; refine (HI.out _).mono ?_; rintro e w1 ⟨v, rfl, hv, hf, hb⟩))
    have hB : Below w.heap.size w w1 := (below_drewN (Below.refl _ _) _).trans hb
    obtain ⟨a3, c3, rfl, l3, m3, _, k3⟩ := id hv
    rw [wts_len] at l3
    unfold maxLen at m3
    obtain ⟨a2', c2', hv2, _, _, _, k2⟩ := IsLB.below (B := w.heap.size) H2.out hB
    cases hv2
    obtain ⟨a1', c1', hv1, _, _, _, k1⟩ := IsLB.below (B := w.heap.size) H1.out hB
    cases hv1
    have hwl := wts_len xs
    obtain ⟨b3, o3, rfl, _, hc3⟩ := k3 (by intro h; have := congrArg List.length h; rw [hwl, List.length_nil] at this; omega)
    obtain ⟨b2, o2, rfl, _, hc2⟩ := k2 (by intro h; have h8 := congrArg List.length h; rw [List.length_nil] at h8; have := HL.out; omega)
    obtain ⟨b1, o1, rfl, _, hc1⟩ := k1 (by intro h; have h8 := congrArg List.length h; rw [List.length_nil] at h8; omega)
    have HC1 := hide hc1; have HC2 := hide hc2; have HC3 := hide hc3
    clear hc1 hc2 hc3 k1 k2 k3 hf hb hv h0
    go_loopw [10, 11] (fun s i wr => ∃ (k q : Nat) (S : Int), i = .int .i64 k ∧ k ≤ xs.length ∧ s = .int .i64 S ∧ Hid (ipN (wts xs) (levL xs ys about) k = S) ∧ wr = w1.drewN q) (fun _ i _ => xs.length - (intOf i).toNat)
    case atStart => exact ⟨0, 0, 0, rfl, Nat.zero_le _, rfl, hide rfl, rfl⟩
    case round =>
      obtain ⟨k, q, S, rfl, hk, rfl, HS, rfl⟩ := hrel
      by_cases hlt : k < xs.length
      · obtain ⟨st1, ⟨st2, st3⟩, ⟨st4, st5⟩, ⟨st6, st7⟩, st8, st9⟩ := ipm_step HP.out HY.out (show 0 ≤ about by omega) (show about ≤ 100000 by omega) k (by omega) hlt
        rw [HS.out] at st1 st2 st3
        have r1 : w1.cell? ⟨b1, o1 + k, none⟩ = some (.int .i64 (at_ xs k)) := HC1.out k hlt
        have r2 : w1.cell? ⟨b2, o2 + k, none⟩ = some (.int .i64 (at_ ys k)) := HC2.out k (by have := HL.out; omega)
        have r3 : w1.cell? ⟨b3, o3 + k, none⟩ = some (.int .i64 (at_ (wts xs) k)) := HC3.out k (by rw [hwl]; omega)
        obtain ⟨A, hA⟩ : ∃ A, at_ (wts xs) k = A := ⟨_, rfl⟩
        obtain ⟨B, hB'⟩ : ∃ B, at_ ys k = B := ⟨_, rfl⟩
        obtain ⟨C, hC'⟩ : ∃ C, at_ xs k = C := ⟨_, rfl⟩
        rw [hA, hB', hC'] at st1 st6 st7
        rw [hA, hB'] at st4 st5
        rw [hC'] at st8 st9 r1
        rw [hA] at r3
        rw [hB'] at r2
        have HT := hide st1
        have hyl : (k : Int) < (ys.length : Int) := by have := HL.out; omega
        have hxl : (k : Int) < (xs.length : Int) := by omega
        have hwl2 : (k : Int) < ((wts xs).length : Int) := by omega
        clear st1 hA hB' hC'
        go_wp2
        go_quiet (fail)
        go_wp2
        go_roundw
        case rel => exact ⟨k + 1, _, S + A * B * (C - about), by go_num, by omega, rfl, HT, (by first | rfl | exact World.drewN_drewN _ _ _)⟩
        case measure => simp [intOf]; omega
      · have hkl : k = xs.length := by omega
        subst hkl
        have hwl2 : ¬ ((xs.length : Int) < ((wts xs).length : Int)) := by omega
        go_wp2
        go_ret2
        exact ⟨ret_ii (by rw [e3.out]; exact HS.out.symm) e2.out.symm, below_drewN hB _⟩
  · have e2 : Hid (momE xs ys about = ordE xs ys) := by show _ = _; unfold momE; rw [if_neg h0]
    have e3 : Hid (momV xs ys about = 0) := by show _ = _; unfold momV; rw [e2.out, if_neg h0]
    have d0 : (ordE xs ys != 0) = true := by simpa using h0
    clear h0
    go_enter Try.func44, Try.ntmps44
    go_wp2_with (go_at_call 75; refine HO.out.mono ?_; rintro e w' ⟨rfl, k, rfl⟩)
    go_ret2
    exact ⟨ret_ii e3.out.symm e2.out.symm, below_drewN (Below.refl _ _) _⟩

set_option maxHeartbeats 1000000 in
theorem rCentre_w {p q r : Int} (xs ys : List Int) (hc : Hid (cenF xs ys = (p, q, r))) (a1 a2 : Option Addr) (n1 n2 c1 c2 : Nat) (w : World) (i1 : IsL w (.slice a1 n1 c1) xs) (i2 : IsL w (.slice a2 n2 c2) ys) :
    Calls Try.prog 46 #[.slice a1 n1 c1, .slice a2 n2 c2] w fun e w' => e = .returned (.tuple #[.agg #[.int .i64 p, .int .i64 q], .int .i64 r]) ∧ Below w.heap.size w w' := by
  have ho := fun (w' : World) (hb : Below w.heap.size w w') => rArea_w a1 a2 n1 n2 c1 c2 xs ys w' (i1.below hb) (i2.below hb)
  by_cases h0 : ordE xs ys = 0
  · obtain ⟨hp, hl, hy⟩ := ord_zero h0
    obtain ⟨A, hA⟩ : ∃ A, dot xs ys = A := ⟨_, rfl⟩
    have hA' : areaV xs ys = A := by unfold areaV; rw [if_pos h0, hA]
    rw [hA', h0] at ho
    have HO := hide ho; clear ho
    have hd := dot_lim hp (lim_more hy (show (20000 : Int) ≤ 2000000000 by omega))
    have hd2 := dot_lim hp (levL_lim hp hy (about := 0) (by omega) (by omega))
    rw [hA] at hd
    obtain ⟨hd1a, hd1b⟩ := hd
    obtain ⟨hd2a, hd2b⟩ := hd2
    by_cases hz : A = 0
    · have hk : (p, q, r) = ((0 : Int), (0 : Int), (3 : Int)) := by have := hc.out; unfold cenF at this; rw [if_pos h0, hA, if_pos hz] at this; exact this.symm
      simp only [Prod.mk.injEq] at hk
      obtain ⟨rfl, rfl, rfl⟩ := hk
      subst hz
      clear hl hA hA' h0 hc
      go_enter Try.func46, Try.ntmps46
      go_wp2_with (go_at_call 42; refine (HO.out _ (by repeat (first | exact Below.refl _ _ | assumption | refine Below.alloc ?_ (by first | omega | (simp; omega) | simp) _ | refine Below.setCell ?_ (by first | omega | (simp; omega) | simp) _ | refine below_drewN ?_ _ | refine Below.drew ?_ | refine back ?_ (by assumption)))).mono ?_; rintro e w1 ⟨rfl, hb1⟩; obtain ⟨hc1, hf1⟩ := bcell hb1; have hz1 := hb1.size; (try simp at hz1); have hs1_0 : w.heap.size < w1.heap.size := (by omega))
      refine bodyPost_ret (v := .tuple #[.agg #[.int .i64 0, .int .i64 0], .int .i64 3]) (by simp [results, Try.results46, go_sem, hc1, hs1_0]) rfl ⟨rfl, (by repeat (first | exact Below.refl _ _ | assumption | refine Below.alloc ?_ (by first | omega | (simp; omega) | simp) _ | refine Below.setCell ?_ (by first | omega | (simp; omega) | simp) _ | refine below_drewN ?_ _ | refine Below.drew ?_ | refine back ?_ (by assumption)))⟩
    · have hk : Hid (mk (dot xs (levL xs ys 0)) A = (p, q, r)) := by have := hc.out; unfold cenF at this; rw [if_pos h0, hA, if_neg hz] at this; exact this
      have hmE : momE xs ys 0 = 0 := by unfold momE; rw [if_pos h0, if_pos (by omega)]
      obtain ⟨M, hM⟩ : ∃ M, dot xs (levL xs ys 0) = M := ⟨_, rfl⟩
      have hmV : momV xs ys 0 = M := by unfold momV; rw [if_pos hmE, hM]
      have hm := fun (w' : World) (hb : Below w.heap.size w w') => rMoment_w a1 a2 n1 n2 c1 c2 xs ys 0 w' (i1.below hb) (i2.below hb) (by unfold FB; omega)
      rw [hmE, hmV] at hm
      rw [hM] at hk hd2a hd2b
      have HM := hide hm; clear hm
      have d0 : (A == 0) = false := by simpa using hz
      clear hl hA hA' h0 hc hM hmE hmV
      go_enter Try.func46, Try.ntmps46
      go_wp2_with (go_at_call 42; refine (HO.out _ (by repeat (first | exact Below.refl _ _ | assumption | refine Below.alloc ?_ (by first | omega | (simp; omega) | simp) _ | refine Below.setCell ?_ (by first | omega | (simp; omega) | simp) _ | refine below_drewN ?_ _ | refine Below.drew ?_ | refine back ?_ (by assumption)))).mono ?_; rintro e w1 ⟨rfl, hb1⟩; obtain ⟨hc1, hf1⟩ := bcell hb1; have hz1 := hb1.size; (try simp at hz1); have hs1_0 : w.heap.size < w1.heap.size := (by omega))
      have hb3 : Below w.heap.size w w1 := (by repeat (first | exact Below.refl _ _ | assumption | refine Below.alloc ?_ (by first | omega | (simp; omega) | simp) _ | refine Below.setCell ?_ (by first | omega | (simp; omega) | simp) _ | refine below_drewN ?_ _ | refine Below.drew ?_ | refine back ?_ (by assumption)))
      refine (HM.out w1 hb3).mono ?_
      rintro e w2 ⟨rfl, hb2⟩; obtain ⟨hc2, hf2⟩ := bcell hb2; have hz2 := hb2.size; (try simp at hz2); have hs2_0 : w.heap.size < w2.heap.size := (by omega)
      have hb4 : Below w.heap.size w w2 := back hb3 hb2
      go_wp2_with (go_at_call 13; refine (rmake_c hk _ ⟨by omega, by omega⟩ ⟨by omega, by omega⟩).mono ?_; rintro e w4 ⟨rfl, hb7⟩; obtain ⟨hc4, hf4⟩ := bcell hb7; have hz4 := hb7.size; have hs4_0 : w.heap.size < w4.heap.size := (by omega))
      have hb8 : Below w.heap.size w w4 := back hb4 hb7
      refine bodyPost_ret (v := .tuple #[.agg #[.int .i64 p, .int .i64 q], .int .i64 r]) (by simp [results, Try.results46, go_sem, hc4, hc2, hc1, hs4_0, hs2_0, hs1_0]) rfl ⟨rfl, (by repeat (first | exact Below.refl _ _ | assumption | refine Below.alloc ?_ (by first | omega | (simp; omega) | simp) _ | refine Below.setCell ?_ (by first | omega | (simp; omega) | simp) _ | refine below_drewN ?_ _ | refine Below.drew ?_ | refine back ?_ (by assumption)))⟩
  · have HO := hide ho; clear ho
    have hk : (p, q, r) = ((0 : Int), (0 : Int), ordE xs ys) := by have := hc.out; unfold cenF at this; rw [if_neg h0] at this; exact this.symm
    simp only [Prod.mk.injEq] at hk
    obtain ⟨rfl, rfl, rfl⟩ := hk
    have d0 : (ordE xs ys != 0) = true := by simpa using h0
    clear h0 hc
    go_enter Try.func46, Try.ntmps46
    go_wp2_with (go_at_call 42; refine (HO.out _ (by repeat (first | exact Below.refl _ _ | assumption | refine Below.alloc ?_ (by first | omega | (simp; omega) | simp) _ | refine Below.setCell ?_ (by first | omega | (simp; omega) | simp) _ | refine below_drewN ?_ _ | refine Below.drew ?_ | refine back ?_ (by assumption)))).mono ?_; rintro e w1 ⟨rfl, hb1⟩; obtain ⟨hc1, hf1⟩ := bcell hb1; have hz1 := hb1.size; (try simp at hz1); have hs1_0 : w.heap.size < w1.heap.size := (by omega))
    refine bodyPost_ret (v := .tuple #[.agg #[.int .i64 0, .int .i64 0], .int .i64 (ordE xs ys)]) (by simp [results, Try.results46, go_sem, hc1, hs1_0]) rfl ⟨rfl, (by repeat (first | exact Below.refl _ _ | assumption | refine Below.alloc ?_ (by first | omega | (simp; omega) | simp) _ | refine Below.setCell ?_ (by first | omega | (simp; omega) | simp) _ | refine below_drewN ?_ _ | refine Below.drew ?_ | refine back ?_ (by assumption)))⟩
end Go.Proofs.Ytijakfkgcloplaa
