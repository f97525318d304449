import Derived.Test.YtlpoenoijmifdaaStq
set_option linter.unusedVariables false
set_option linter.unusedSimpArgs false
namespace Go.Proofs.Ytlpoenoijmifdaa
open Go.RowKit

theorem Stp.move {M d : Int} {xs : List Int} (h : Stp M xs) (h2 : 2 ≤ xs.length) (h9 : xs.length ≤ 9) (hM : 0 ≤ M) (hM2 : M ≤ 1200) (hd : 0 ≤ d) (hd2 : d ≤ 50000) : Pos (xs.map (· + d)) := by
  have p := h.pos h2 h9 hM (by omega)
  refine ⟨by simp; omega, by simp; omega, fun i hi => ?_, fun i hi => ?_⟩
  · simp only [List.length_map] at hi
    rw [at_map _ _ _ hi]
    have := h.bd i hi
    have h3 : M * (i : Int) ≤ M * 8 := Int.mul_le_mul_of_nonneg_left (by omega) hM
    omega
  · simp only [List.length_map] at hi
    rw [at_map _ _ _ hi, at_map _ _ _ (by omega)]
    have := p.up i hi; omega

theorem Stp.grow {M m : Int} {xs : List Int} (h : Stp M xs) (h2 : 2 ≤ xs.length) (h9 : xs.length ≤ 9) (hM : 0 ≤ M) (hM2 : M ≤ 1200) (hm : 1 ≤ m) (hm2 : m ≤ 9) : Pos (xs.map (· * m)) := by
  have p := h.pos h2 h9 hM (by omega)
  refine ⟨by simp; omega, by simp; omega, fun i hi => ?_, fun i hi => ?_⟩
  · simp only [List.length_map] at hi
    rw [at_map _ _ _ hi]
    have := h.bd i hi
    have h3 : M * (i : Int) ≤ M * 8 := Int.mul_le_mul_of_nonneg_left (by omega) hM
    have h4 : at_ xs i * m ≤ at_ xs i * 9 := Int.mul_le_mul_of_nonneg_left hm2 (by omega)
    have h5 : 0 ≤ at_ xs i * m := Int.mul_nonneg (by omega) (by omega)
    omega
  · simp only [List.length_map] at hi
    rw [at_map _ _ _ hi, at_map _ _ _ (by omega)]
    exact Int.mul_lt_mul_of_pos_right (p.up i hi) (by omega)

theorem take_map_snoc (f : Int → Int) (xs : List Int) (k : Nat) (h : k < xs.length) : (xs.take k).map f ++ [f (at_ xs k)] = (xs.take (k + 1)).map f := by
  rw [List.take_succ_eq_append_getElem h, at_get h, List.map_append]; rfl

theorem pos_FB {xs : List Int} (hp : Pos xs) : ∀ x ∈ xs, FB x := by
  intro x hx
  obtain ⟨i, hi, rfl⟩ := List.mem_iff_getElem.1 hx
  have := hp.bd i hi
  rw [at_get hi] at this
  exact ⟨by omega, by omega⟩

/-- Weights of valid positions. -/
theorem Weights_pos (a : Option Addr) (n cap : Nat) (xs : List Int) (w : World) (h : IsL w (.slice a n cap) xs) (hp : Pos xs) :
    Calls Try.prog 35 #[.slice a n cap] w fun e w' => ∃ a' c', e = .returned (.tuple #[.slice a' xs.length c', .int .i64 0]) ∧ IsL w' (.slice a' xs.length c') (wts xs) ∧ Fresh w.heap.size (.slice a' xs.length c') ∧ Below w.heap.size w w' := by
  refine (Weights_w a n cap xs w h).mono ?_
  rintro e w' ⟨v, he, hv, hf, hb⟩
  rw [wtsE_pos hp] at hv
  rw [pl_pos hp] at he
  obtain ⟨a', c', rfl, _⟩ := id hv
  rw [wts_len] at he hv hf
  exact ⟨a', c', he, hv, hf, hb⟩

set_option maxRecDepth 100000 in
set_option maxHeartbeats 4000000 in
theorem lawScales_w (W : World) (a : Option Addr) (n cap : Nat) (ls : List Int) (h : IsL W (.slice a n cap) ls) (hm : ls.length ≤ 1000000000000000000) (by' : Int) (hf1 : FB by') (nn : Int) (hf2 : FB nn) :
    Calls Try.prog 10 #[.slice a n cap, .int .i64 by', .int .i64 nn] W fun e w' => e = .returned (.bool true) ∧ Below W.heap.size W w' := by
  have P : Calls Try.prog 51 #[.slice a n cap, .int .i64 9, .int .i64 400] W fun e w' => Drawn W.heap.size 400 9 e W w' := places_mk a n cap ls 9 400 W h hm (by omega) (by omega) (by omega) (by omega)
  have b1 := Int.emod_nonneg by' (show (50000 : Int) ≠ 0 by omega)
  have b2 := Int.emod_lt_of_pos by' (show (0 : Int) < 50000 by omega)
  have b3 := Int.emod_nonneg nn (show (9 : Int) ≠ 0 by omega)
  have b4 := Int.emod_lt_of_pos nn (show (0 : Int) < 9 by omega)
  have M1 := fun w => mod_w by' 50000 w hf1 (by omega) (by omega)
  have M2 := fun w => mod_w nn 9 w hf2 (by omega) (by omega)
  generalize by' % 50000 = d at b1 b2 M1
  generalize nn % 9 = m at b3 b4 M2
  have HP := hide P; have HM1 := hide M1; have HM2 := hide M2
  clear P M1 M2 h hm
  go_enter Try.func10, Try.ntmps10
  go_wp2_with fail
  refine HP.out.mono ?_
  rintro e w1 ⟨v, xs, rfl, hown, hst, h2, h9, hb⟩
  have hp := hst.pos h2 h9 (by omega) (by omega)
  have hpa := hst.move h2 h9 (by omega) (by omega) b1 (show d ≤ 50000 by omega)
  have hpb := hst.grow (m := 1 + m) h2 h9 (by omega) (by omega) (by omega) (by omega)
  have hL := hown.isL (pos_FB hp)
  obtain ⟨g, gc, rfl, hg1, hg2, _⟩ := hown.form rfl (by omega)
  have HL := hide hL; have HP' := hide hp; have HPA := hide hpa; have HPB := hide hpb
  clear HP hL hp hpa hpb hown hst
  go_wp2_with fail
  refine (HM1.out _).mono ?_
  rintro e w' ⟨rfl, rfl⟩
  go_wp2_with fail
  refine (HM2.out _).mono ?_
  rintro e w' ⟨rfl, rfl⟩
  go_wp2_with fail
  go_loopw [7, 8, 9] (fun va vb i wr => ∃ (A B : Value) (k : Nat), A = va ∧ B = vb ∧ i = .int .i64 k ∧ k ≤ xs.length ∧ Hid (Own w1.heap.size wr A ((xs.take k).map (· + d))) ∧ Hid (Own w1.heap.size wr B ((xs.take k).map (· * (1 + m)))) ∧ Hid (Apart A B) ∧ Hid (Below w1.heap.size w1 wr)) (fun _ _ i _ => xs.length - (intOf i).toNat)
  case atStart => exact ⟨_, _, 0, rfl, rfl, rfl, Nat.zero_le _, hide (by simpa using Own.nil _ _), hide (by simpa using Own.nil _ _), hide (by intro k h; simp [Value.ownBlock] at h), hide (Below.refl _ _)⟩
  case round =>
    obtain ⟨A, B, k, rfl, rfl, rfl, hk, hA, hB, hap, hbel⟩ := hrel
    have hsz := hbel.out.size
    by_cases hlt : k < xs.length
    · have hL := HL.out
      obtain ⟨a', cap', hv, hl1, hl2, h3, h4⟩ := hL
      cases hv
      obtain ⟨b, off, e, hbl, hc⟩ := h4 (by intro h; subst h; simp at hlt)
      cases e
      have c1 : wr.cell? ⟨g, k, none⟩ = some (.int .i64 (at_ xs k)) := by
        have := hc k hlt
        rw [Nat.zero_add] at this
        exact (hbel.out.cell (p := ⟨g, k, none⟩) hg2).trans this
      have bx := HP'.out.bd k hlt
      have n1 := take_map_snoc (· + d) xs k hlt
      have n2 := take_map_snoc (· * (1 + m)) xs k hlt
      obtain ⟨x, hx⟩ : ∃ x, at_ xs k = x := ⟨_, rfl⟩
      rw [hx] at c1 bx n1 n2
      obtain ⟨bx1, bx2⟩ := bx
      obtain ⟨p, hp⟩ : ∃ p, x * (1 + m) = p := ⟨_, rfl⟩
      have hp1 : 0 ≤ p := by rw [← hp]; exact Int.mul_nonneg bx1 (by omega)
      have hp2 : p ≤ 1000000 := by
        rw [← hp]
        have : x * (1 + m) ≤ x * 9 := Int.mul_le_mul_of_nonneg_left (by omega) bx1
        omega
      rw [hp] at n2
      have N1 := hide n1; have N2 := hide n2
      clear n1 n2 hc h4 h3 hx
      have hl3 : (k : Int) < xs.length := by omega
      have hlen : (List.map (· + d) (xs.take k)).length ≤ 1000000 := by simp; omega
      have hlen2 : (List.map (· * (1 + m)) (xs.take k)).length ≤ 1000000 := by simp; omega
      go_wp2_with (first
        | (at_builtin; refine push_w rfl (.tmp 30) (.tmp 37) rfl w1.heap.size wr A _ (x + d) hA.out rfl rfl hlen hsz ?_; intro v1 w2 hown1 hg1 hbk1; have hb2 := grow_below hA.out hsz hg1; have hB2 := grow_kept hB.out hap.out.symm hg1; have hap2 := grow_apart hB.out hap.out.symm hbk1; have c2 : w2.cell? ⟨g, k, none⟩ = some (.int .i64 x) := (hb2.cell (p := ⟨g, k, none⟩) hg2).trans c1; rw [N1.out] at hown1; have hsz2 := hb2.size; have hsz3 : w1.heap.size ≤ w2.heap.size := (by omega); have HB2 := hide hb2; have HBO := hide hB2; have HAP2 := hide hap2; have HO1 := hide hown1; clear c1 hb2 hB2 hap2 hown1 hg1 hbk1)
        | (at_builtin; refine push_w rfl (.tmp 39) (.tmp 46) rfl w1.heap.size w2 B _ p HBO.out rfl rfl hlen2 hsz3 ?_; intro v2 w3 hown2 hg2' hbk2))
      have hb3 := grow_below HBO.out hsz3 hg2'
      have hA3 := grow_kept HO1.out HAP2.out.symm hg2'
      have hap3 := grow_apart HO1.out HAP2.out.symm hbk2
      rw [N2.out] at hown2
      have HB3 := hide hb3; have HA3 := hide hA3; have HAP3 := hide hap3; have HO2 := hide hown2
      clear hb3 hA3 hap3 hown2 hg2' hbk2
      go_roundw
      case rel => exact ⟨_, _, k + 1, rfl, rfl, by go_num, by omega, HA3, HO2, HAP3, hide ((hbel.out.trans HB2.out).trans HB3.out)⟩
      case measure => simp [intOf]; omega
    · have hl3 : ¬ ((k : Int) < xs.length) := by omega
      have hA' := hA.out
      have hB' := hB.out
      rw [List.take_of_length_le (by omega)] at hA' hB'
      have hAL := hA'.isL (pos_FB HPA.out)
      have hBL := hB'.isL (pos_FB HPB.out)
      obtain ⟨aA, cA, rfl, _⟩ := id hAL
      obtain ⟨aB, cB, rfl, _⟩ := id hBL
      rw [List.length_map] at hAL hBL
      have e1 := Weights_pos aA xs.length cA (xs.map (· + d))
      have e2 := Weights_pos aB xs.length cB (xs.map (· * (1 + m)))
      rw [List.length_map, wts_shift] at e1
      rw [List.length_map, wts_scale _ _ (show 1 ≤ 1 + m by omega)] at e2
      simp only [List.length_map]
      have hl := wts_len xs
      have E1 := hide e1; have E2 := hide e2; have HAL := hide hAL; have HBL := hide hBL; have HWL := hide hl
      have hlim := wts_lim HP'.out
      have HLIM := hide hlim
      clear e1 e2 hAL hBL hA' hB' hA hB hl hlim
      go_wp2_with fail
      refine (Weights_pos _ _ _ xs _ (HL.out.below hbel.out) HP'.out).mono ?_
      rintro e w3 ⟨a3, c3, rfl, hv3, hf3, hb3⟩
      have H3 := hide hv3; have HAL3 := hide (HAL.out.below hb3); have HBL3 := hide (HBL.out.below hb3)
      have K3 := hide ((hbel.out.trans (hb3.mono hsz)))
      clear hv3 hf3 hb3
      go_wp2_with fail
      refine (E1.out _ HAL3.out HPA.out).mono ?_
      rintro e w4 ⟨a4, c4, rfl, hv4, hf4, hb4⟩
      have hz3 := K3.out.size
      have H3' := hide (H3.out.below hb4); have H4 := hide hv4; have HBL4 := hide (HBL3.out.below hb4)
      have K4 := hide (K3.out.trans (hb4.mono hz3))
      clear hv4 hf4 hb4
      go_wp2_with fail
      refine (E2.out _ HBL4.out HPB.out).mono ?_
      rintro e w5 ⟨a5, c5, rfl, hv5, hf5, hb5⟩
      have hz4 := K4.out.size
      have H3'' := hide (H3'.out.below hb5); have H4' := hide (H4.out.below hb5); have H5 := hide hv5
      have K5 := hide (K4.out.trans (hb5.mono hz4))
      have hz1 := hb.size
      have KW := hide (back hb K5.out)
      have hz5 := K5.out.size
      clear hv5 hf5 hb5 hb
      go_wp2_with (go_at_call 38; refine (sameInts_w _ _ (wts xs) _ H3''.out H4'.out).mono ?_; rintro e w' ⟨rfl, q, rfl⟩)
      go_loopw [16] (fun i wr => ∃ k n : Nat, i = .int .i64 k ∧ k ≤ xs.length ∧ wr = w5.drewN n) (fun i _ => xs.length - (intOf i).toNat)
      case atStart => exact ⟨0, q, rfl, Nat.zero_le _, rfl⟩
      case round =>
        obtain ⟨j, q2, rfl, hj, rfl⟩ := hrel
        by_cases hlj : j < xs.length
        · have hw := H3''.out
          have hy := H5.out
          obtain ⟨a6, cap6, hv6, hl6, hm6, h36, h46⟩ := hw
          obtain ⟨a7, cap7, hv7, hl7, hm7, h37, h47⟩ := hy
          obtain ⟨rfl, hln6, rfl⟩ := Value.slice.inj hv6
          obtain ⟨rfl, hln7, rfl⟩ := Value.slice.inj hv7
          clear hln6 hln7 hv6 hv7
          obtain ⟨b6, o6, rfl, hbl6, hc6⟩ := h46 (by intro h; have := HWL.out; rw [h] at this; simp at this; omega)
          obtain ⟨b7, o7, rfl, hbl7, hc7⟩ := h47 (by intro h; have := HWL.out; rw [← List.length_map (f := (fun x => (1 + m) * x)), h] at this; simp at this; omega)
          have d6 : w5.cell? ⟨b6, o6 + j, none⟩ = some (.int .i64 (at_ (wts xs) j)) := hc6 j (by rw [HWL.out]; exact hlj)
          have d7 : w5.cell? ⟨b7, o7 + j, none⟩ = some (.int .i64 ((1 + m) * at_ (wts xs) j)) := by
            have := hc7 j (by rw [List.length_map, HWL.out]; exact hlj)
            rw [show ((wts xs).map fun x => (1 + m) * x)[j]?.getD 0 = (1 + m) * at_ (wts xs) j from at_map _ _ _ (by rw [HWL.out]; exact hlj)] at this
            exact this
          have lx := HLIM.out j
          obtain ⟨x, hx⟩ : ∃ x, at_ (wts xs) j = x := ⟨_, rfl⟩
          rw [hx] at d6 d7 lx
          have lp := mul_lim (a := 1 + m) (b := x) (K := 9) (V := 480000000) (by omega) lx
          obtain ⟨lp1, lp2⟩ := lp
          obtain ⟨p, hp⟩ : ∃ p, (1 + m) * x = p := ⟨_, rfl⟩
          rw [hp] at d7 lp1 lp2
          have hpp : (p != p) = false := by simp
          clear hc6 hc7 h46 h47 h36 h37 hx
          have hl3 : (j : Int) < xs.length := by omega
          go_wp2
          go_quiet (fail)
          go_wp2
          go_roundw
          case rel => exact ⟨j + 1, _, by go_num, by omega, (by first | rfl | exact World.drewN_drewN _ _ _)⟩
          case measure => simp [intOf]; omega
        · have hl3 : ¬ ((j : Int) < xs.length) := by omega
          go_wp2_with (go_at_call 32; refine (sane_w _).mono ?_; rintro e w7 ⟨rfl, hb7⟩)
          go_ret
          exact ⟨rfl, back (below_drewN KW.out _) hb7⟩
end Go.Proofs.Ytlpoenoijmifdaa
