import Derived.Test.YtlpoenoijmifdaaLit
set_option linter.unusedVariables false
set_option linter.unusedSimpArgs false
namespace Go.Proofs.Ytlpoenoijmifdaa
open Go.RowKit Go.Shelf

/-- A slice that has just been built. -/
theorem IsL.built (w : World) (l : List Int) (cs : Array Value) (n : Nat) (hcs : cs = ints l) (hn : n = l.length) (hb : ∀ x ∈ l, FB x) (hm : l.length ≤ 1000000) : IsL (w.alloc (.cells cs 3)) (.slice (some ⟨w.heap.size, 0, none⟩) n n) l := by
  subst hcs
  exact IsLB.of_blk (Blk.new w 3 (ints l)) hn hb hm

theorem FB.all {l : List Int} (h : l.all (fun x => decide (-9223372036854775808 ≤ x) && decide (x ≤ 9223372036854775807)) = true) : ∀ x ∈ l, FB x := by
  intro x hx
  have := (List.all_eq_true.1 h) x hx
  simp only [Bool.and_eq_true, decide_eq_true_eq] at this
  exact this

theorem e_wts : wtsE [0, 10, 20, 50, 90] = [120, 480, 660, 1260, 720] := by decide +kernel
theorem e_pl : pl [0, 10, 20, 50, 90] = 0 := by decide +kernel
theorem e_cen : cenF [0, 10, 20] [1, 1, 1] = (10, 1, 0) := by decide +kernel
theorem e_tab : tabE [0, 1000, 2000] [0, 1000] [[500, 500], [500, 500], [500, 500]] = 0 := by decide +kernel
theorem e_lit : litE [0, 1000, 2000] [0, 1000] [[500, 500], [500, 500], [500, 500]] = 2000 := by decide +kernel
theorem e_mk : mk 6 (-4) = (-3, 2, 0) := by decide +kernel
theorem e_chk : chk (-3) 2 = 0 := by decide +kernel
theorem e_flo : flo (2 * (-3) + 2) (2 * 2) = -1 := by decide +kernel

theorem round_c (w : World) : Calls Try.prog 26 #[.agg #[.int .i64 (-3), .int .i64 2]] w fun e w' => e = .returned (.tuple #[.int .i64 (-1), .int .i64 0]) ∧ Below w.heap.size w w' :=
  (round_w (-3) 2 w ⟨by omega, by omega⟩ ⟨by omega, by omega⟩).mono fun _ _ ⟨he, hb⟩ => ⟨by rw [he, e_chk, e_flo]; rfl, hb⟩

theorem weights_c (w : World) (a : Option Addr) (n c : Nat) (h : IsL w (.slice a n c) [0, 10, 20, 50, 90]) : Calls Try.prog 35 #[.slice a n c] w fun e w' => ∃ a' c', e = .returned (.tuple #[.slice a' 5 c', .int .i64 0]) ∧ IsL w' (.slice a' 5 c') [120, 480, 660, 1260, 720] ∧ Below w.heap.size w w' := by
  refine (Weights_w a n c _ w h).mono ?_
  rintro e w' ⟨v, he, hv, _, hb⟩
  rw [e_wts] at hv
  rw [e_pl] at he
  obtain ⟨a', c', rfl, _⟩ := id hv
  exact ⟨a', c', he, hv, hb⟩

theorem litres_c (w : World) (a1 a2 a3 : Option Addr) (n1 n2 n3 c1 c2 c3 : Nat) (vs : List Value) (i1 : IsL w (.slice a1 n1 c1) [0, 1000, 2000]) (i2 : IsL w (.slice a2 n2 c2) [0, 1000]) (i3 : IsRB w.heap.size w (.slice a3 n3 c3) vs [[500, 500], [500, 500], [500, 500]]) :
    Calls Try.prog 58 #[.agg #[.slice a1 n1 c1, .slice a2 n2 c2, .slice a3 n3 c3]] w fun e w' => e = .returned (.tuple #[.int .i64 2000, .int .i64 0]) ∧ Below w.heap.size w w' :=
  (Litres_w a1 a2 a3 n1 n2 n3 c1 c2 c3 vs _ _ _ w i1 i2 i3).mono fun _ _ ⟨he, hb⟩ => ⟨by rw [he, e_tab, e_lit], hb⟩

set_option maxRecDepth 100000 in
set_option maxHeartbeats 4000000 in
theorem sane_w (w : World) : Calls Try.prog 32 #[] w fun e w' => e = .returned (.bool true) ∧ Below w.heap.size w w' := by
  go_enter Try.func32, Try.ntmps32
  go_wp2_with fail
  refine (make_c (p := -3) (q := 2) (r := 0) (hide e_mk) _ ⟨by omega, by omega⟩ ⟨by omega, by omega⟩).mono ?_
  rintro e w1 ⟨rfl, hb1⟩
  have hz1 := hb1.size
  go_wp2_with fail
  refine (round_c _).mono ?_
  rintro e w2 ⟨rfl, hb2⟩
  have hz2 : w1.heap.size + 1 ≤ w2.heap.size := by have := hb2.size; simpa using this
  have f0 : w2.cell? ⟨w1.heap.size, 0, none⟩ = some (.int .i64 (-3)) := (hb2.cell (p := ⟨w1.heap.size, 0, none⟩) (by simp)).trans (by simp)
  have f1 : w2.cell? ⟨w1.heap.size, 1, none⟩ = some (.int .i64 2) := (hb2.cell (p := ⟨w1.heap.size, 1, none⟩) (by simp)).trans (by simp)
  have hB2 : Below w.heap.size w w2 := (by repeat (first | exact Below.refl _ _ | assumption | refine Below.alloc ?_ (by first | omega | (simp; omega) | simp) _ | refine Below.setCell ?_ (by first | omega | (simp; omega) | simp) _ | refine below_drewN ?_ _ | refine Below.drew ?_ | refine back ?_ (by assumption)))
  have F0 := hide f0; have F1 := hide f1; clear f0 f1 hb1 hb2
  go_wp2_with fail
  refine (weights_c _ _ _ _ (IsL.built w2 [0, 10, 20, 50, 90] _ 5 rfl rfl (FB.all (by decide)) (by decide))).mono ?_
  rintro e w3 ⟨a3, c3, rfl, hv, hb3⟩
  have hL3 : Below w2.heap.size w2 w3 := (by repeat (first | exact Below.refl _ _ | assumption | refine Below.alloc ?_ (by first | omega | (simp; omega) | simp) _ | refine Below.setCell ?_ (by first | omega | (simp; omega) | simp) _ | refine below_drewN ?_ _ | refine Below.drew ?_ | refine back ?_ (by assumption)))
  have hz3 := hL3.size
  have f0 : w3.cell? ⟨w1.heap.size, 0, none⟩ = some (.int .i64 (-3)) := (hL3.cell (p := ⟨w1.heap.size, 0, none⟩) (by show w1.heap.size < _; omega)).trans F0.out
  have f1 : w3.cell? ⟨w1.heap.size, 1, none⟩ = some (.int .i64 2) := (hL3.cell (p := ⟨w1.heap.size, 1, none⟩) (by show w1.heap.size < _; omega)).trans F1.out
  have hB3 : Below w.heap.size w w3 := back hB2 hL3
  clear F0 F1
  have F0 := hide f0; have F1 := hide f1; have HV := hide hv; clear f0 f1 hb3 hv hL3
  go_wp2_with fail
  have hia : ∀ o, IsL ((w3.alloc (.cells (ints [0, 10, 20]) 3)).alloc o) (.slice (some ⟨w3.heap.size, 0, none⟩) 3 3) [0, 10, 20] := fun o => IsL.below (IsL.built w3 [0, 10, 20] _ 3 rfl rfl (FB.all (by decide)) (by decide)) ((Below.refl _ _).alloc (Nat.le_refl _) _)
  have hib : IsL ((w3.alloc (.cells (ints [0, 10, 20]) 3)).alloc (.cells (ints [1, 1, 1]) 3)) (.slice (some ⟨w3.heap.size + 1, 0, none⟩) 3 3) [1, 1, 1] := by
    have := IsL.built (w3.alloc (.cells (ints [0, 10, 20]) 3)) [1, 1, 1] _ 3 rfl rfl (FB.all (by decide)) (by decide)
    rwa [World.size_alloc] at this
  refine (Centre_w (p := 10) (q := 1) (r := 0) [0, 10, 20] [1, 1, 1] (hide e_cen) _ _ _ _ _ _ _ (hia _) hib).mono ?_
  rintro e w4 ⟨rfl, hb4⟩
  clear hia hib
  have hL4 : Below w3.heap.size w3 w4 := (((Below.refl _ _).alloc (Nat.le_refl _) _).alloc (by simp) _).trans (hb4.mono (by simp; omega))
  have hz4 := hL4.size
  have f0 : w4.cell? ⟨w1.heap.size, 0, none⟩ = some (.int .i64 (-3)) := (hL4.cell (p := ⟨w1.heap.size, 0, none⟩) (by show w1.heap.size < _; omega)).trans F0.out
  have f1 : w4.cell? ⟨w1.heap.size, 1, none⟩ = some (.int .i64 2) := (hL4.cell (p := ⟨w1.heap.size, 1, none⟩) (by show w1.heap.size < _; omega)).trans F1.out
  have hB4 : Below w.heap.size w w4 := back hB3 hL4
  have hv4 := IsL.below HV.out hL4
  clear F0 F1 HV
  have F0 := hide f0; have F1 := hide f1; have HV := hide hv4; clear f0 f1 hb4 hv4 hL4
  go_wp2_with fail
  obtain ⟨A1, hA1⟩ : ∃ A, w4.alloc (.cells #[.int .i64 10, .int .i64 1] 23) = A := ⟨_, rfl⟩
  have zA1 : A1.heap.size = w4.heap.size + 1 := by rw [← hA1, World.size_alloc]
  have bA1 : Below w4.heap.size w4 A1 := by rw [← hA1]; exact (Below.refl _ _).alloc (Nat.le_refl _) _
  obtain ⟨A2, hA2⟩ : ∃ A, A1.alloc (.cells #[.int .i64 0, .int .i64 1000, .int .i64 2000] 3) = A := ⟨_, rfl⟩
  have zA2 : A2.heap.size = w4.heap.size + 1 + 1 := by rw [← hA2, World.size_alloc, zA1]
  have bA2 : Below A1.heap.size A1 A2 := by rw [← hA2]; exact (Below.refl _ _).alloc (Nat.le_refl _) _
  obtain ⟨A3, hA3⟩ : ∃ A, A2.alloc (.cells #[.int .i64 0, .int .i64 1000] 3) = A := ⟨_, rfl⟩
  have zA3 : A3.heap.size = w4.heap.size + 1 + 1 + 1 := by rw [← hA3, World.size_alloc, zA2]
  have bA3 : Below A2.heap.size A2 A3 := by rw [← hA3]; exact (Below.refl _ _).alloc (Nat.le_refl _) _
  obtain ⟨A4, hA4⟩ : ∃ A, A3.alloc (.cells #[.int .i64 500, .int .i64 500] 3) = A := ⟨_, rfl⟩
  have zA4 : A4.heap.size = w4.heap.size + 1 + 1 + 1 + 1 := by rw [← hA4, World.size_alloc, zA3]
  have bA4 : Below A3.heap.size A3 A4 := by rw [← hA4]; exact (Below.refl _ _).alloc (Nat.le_refl _) _
  obtain ⟨A5, hA5⟩ : ∃ A, A4.alloc (.cells #[.int .i64 500, .int .i64 500] 3) = A := ⟨_, rfl⟩
  have zA5 : A5.heap.size = w4.heap.size + 1 + 1 + 1 + 1 + 1 := by rw [← hA5, World.size_alloc, zA4]
  have bA5 : Below A4.heap.size A4 A5 := by rw [← hA5]; exact (Below.refl _ _).alloc (Nat.le_refl _) _
  obtain ⟨A6, hA6⟩ : ∃ A, A5.alloc (.cells #[.int .i64 500, .int .i64 500] 3) = A := ⟨_, rfl⟩
  have zA6 : A6.heap.size = w4.heap.size + 1 + 1 + 1 + 1 + 1 + 1 := by rw [← hA6, World.size_alloc, zA5]
  have bA6 : Below A5.heap.size A5 A6 := by rw [← hA6]; exact (Below.refl _ _).alloc (Nat.le_refl _) _
  obtain ⟨A7, hA7⟩ : ∃ A, A6.alloc (.cells #[.slice (some ⟨w4.heap.size + 1 + 1 + 1, 0, none⟩) 2 2, .slice (some ⟨w4.heap.size + 1 + 1 + 1 + 1, 0, none⟩) 2 2, .slice (some ⟨w4.heap.size + 1 + 1 + 1 + 1 + 1, 0, none⟩) 2 2] 38) = A := ⟨_, rfl⟩
  have zA7 : A7.heap.size = w4.heap.size + 1 + 1 + 1 + 1 + 1 + 1 + 1 := by rw [← hA7, World.size_alloc, zA6]
  have bA7 : Below A6.heap.size A6 A7 := by rw [← hA7]; exact (Below.refl _ _).alloc (Nat.le_refl _) _
  obtain ⟨A8, hA8⟩ : ∃ A, A7.alloc (.cells #[.slice (some ⟨w4.heap.size + 1, 0, none⟩) 3 3, .slice (some ⟨w4.heap.size + 1 + 1, 0, none⟩) 2 2, .slice (some ⟨w4.heap.size + 1 + 1 + 1 + 1 + 1 + 1, 0, none⟩) 3 3] 70) = A := ⟨_, rfl⟩
  have zA8 : A8.heap.size = w4.heap.size + 1 + 1 + 1 + 1 + 1 + 1 + 1 + 1 := by rw [← hA8, World.size_alloc, zA7]
  have bA8 : Below A7.heap.size A7 A8 := by rw [← hA8]; exact (Below.refl _ _).alloc (Nat.le_refl _) _
  have c0 : A1.cell? ⟨w4.heap.size, 0, none⟩ = some (.int .i64 10) := by rw [← hA1]; simp
  have c1 : A1.cell? ⟨w4.heap.size, 1, none⟩ = some (.int .i64 1) := by rw [← hA1]; simp
  have iS : IsL A2 (.slice (some ⟨w4.heap.size + 1, 0, none⟩) 3 3) [0, 1000, 2000] := by
    have := IsL.built A1 [0, 1000, 2000] _ 3 rfl rfl (FB.all (by decide)) (by decide)
    rw [zA1] at this; rw [← hA2]; exact this
  have iW : IsL A3 (.slice (some ⟨w4.heap.size + 1 + 1, 0, none⟩) 2 2) [0, 1000] := by
    have := IsL.built A2 [0, 1000] _ 2 rfl rfl (FB.all (by decide)) (by decide)
    rw [zA2] at this; rw [← hA3]; exact this
  have i0 : IsL A4 (.slice (some ⟨w4.heap.size + 1 + 1 + 1, 0, none⟩) 2 2) [500, 500] := by
    have := IsL.built A3 [500, 500] _ 2 rfl rfl (FB.all (by decide)) (by decide)
    rw [zA3] at this; rw [← hA4]; exact this
  have i1 : IsL A5 (.slice (some ⟨w4.heap.size + 1 + 1 + 1 + 1, 0, none⟩) 2 2) [500, 500] := by
    have := IsL.built A4 [500, 500] _ 2 rfl rfl (FB.all (by decide)) (by decide)
    rw [zA4] at this; rw [← hA5]; exact this
  have i2 : IsL A6 (.slice (some ⟨w4.heap.size + 1 + 1 + 1 + 1 + 1, 0, none⟩) 2 2) [500, 500] := by
    have := IsL.built A5 [500, 500] _ 2 rfl rfl (FB.all (by decide)) (by decide)
    rw [zA5] at this; rw [← hA6]; exact this
  have r0 : A7.cell? ⟨w4.heap.size + 1 + 1 + 1 + 1 + 1 + 1, 0, none⟩ = some (.slice (some ⟨w4.heap.size + 1 + 1 + 1, 0, none⟩) 2 2) := by rw [← hA7, ← zA6]; simp
  have r1 : A7.cell? ⟨w4.heap.size + 1 + 1 + 1 + 1 + 1 + 1, 1, none⟩ = some (.slice (some ⟨w4.heap.size + 1 + 1 + 1 + 1, 0, none⟩) 2 2) := by rw [← hA7, ← zA6]; simp
  have r2 : A7.cell? ⟨w4.heap.size + 1 + 1 + 1 + 1 + 1 + 1, 2, none⟩ = some (.slice (some ⟨w4.heap.size + 1 + 1 + 1 + 1 + 1, 0, none⟩) 2 2) := by rw [← hA7, ← zA6]; simp
  have b68 : Below A6.heap.size A6 A8 := bA7.trans (bA8.mono bA7.size)
  have b58 : Below A5.heap.size A5 A8 := bA6.trans (b68.mono bA6.size)
  have b48 : Below A4.heap.size A4 A8 := bA5.trans (b58.mono bA5.size)
  have b38 : Below A3.heap.size A3 A8 := bA4.trans (b48.mono bA4.size)
  have b28 : Below A2.heap.size A2 A8 := bA3.trans (b38.mono bA3.size)
  have b18 : Below A1.heap.size A1 A8 := bA2.trans (b28.mono bA2.size)
  have hb48' : Below w4.heap.size w4 A8 := bA1.trans (b18.mono bA1.size)
  have hrows : IsRB A8.heap.size A8 (.slice (some ⟨w4.heap.size + 1 + 1 + 1 + 1 + 1 + 1, 0, none⟩) 3 3) [.slice (some ⟨w4.heap.size + 1 + 1 + 1, 0, none⟩) 2 2, .slice (some ⟨w4.heap.size + 1 + 1 + 1 + 1, 0, none⟩) 2 2, .slice (some ⟨w4.heap.size + 1 + 1 + 1 + 1 + 1, 0, none⟩) 2 2] [[500, 500], [500, 500], [500, 500]] := by
    refine ⟨rfl, fun i hi => ?_, some ⟨w4.heap.size + 1 + 1 + 1 + 1 + 1 + 1, 0, none⟩, 3, rfl, Nat.le_refl _, by unfold maxLen; decide, fun _ => ⟨w4.heap.size + 1 + 1 + 1 + 1 + 1 + 1, 0, rfl, by rw [zA8]; omega, fun i hi => ?_⟩⟩
    · match i, hi with
      | 0, _ => exact IsL.below i0 b48
      | 1, _ => exact IsL.below i1 b58
      | 2, _ => exact IsL.below i2 b68
    · match i, hi with
      | 0, _ => exact (bA8.cell (p := ⟨w4.heap.size + 1 + 1 + 1 + 1 + 1 + 1, 0, none⟩) (by show w4.heap.size + 1 + 1 + 1 + 1 + 1 + 1 < A7.heap.size; rw [zA7]; omega)).trans r0
      | 1, _ => exact (bA8.cell (p := ⟨w4.heap.size + 1 + 1 + 1 + 1 + 1 + 1, 1, none⟩) (by show w4.heap.size + 1 + 1 + 1 + 1 + 1 + 1 < A7.heap.size; rw [zA7]; omega)).trans r1
      | 2, _ => exact (bA8.cell (p := ⟨w4.heap.size + 1 + 1 + 1 + 1 + 1 + 1, 2, none⟩) (by show w4.heap.size + 1 + 1 + 1 + 1 + 1 + 1 < A7.heap.size; rw [zA7]; omega)).trans r2
  have hlit := litres_c A8 _ _ _ _ _ _ _ _ _ _ (IsL.below iS b28) (IsL.below iW b38) hrows
  rw [hA1, hA2, hA3, hA4, hA5, hA6, hA7, hA8]
  clear hA1 hA2 hA3 hA4 hA5 hA6 hA7 hA8
  refine hlit.mono ?_
  rintro e w5 ⟨rfl, hb5⟩
  have hL5 : Below w4.heap.size w4 w5 := hb48'.trans (hb5.mono hb48'.size)
  have hL5' : Below A1.heap.size A1 w5 := b18.trans (hb5.mono b18.size)
  have hz5 : w4.heap.size + 1 ≤ w5.heap.size := by have := hL5'.size; omega
  have f0 : w5.cell? ⟨w1.heap.size, 0, none⟩ = some (.int .i64 (-3)) := (hL5.cell (p := ⟨w1.heap.size, 0, none⟩) (by show w1.heap.size < _; omega)).trans F0.out
  have f1 : w5.cell? ⟨w1.heap.size, 1, none⟩ = some (.int .i64 2) := (hL5.cell (p := ⟨w1.heap.size, 1, none⟩) (by show w1.heap.size < _; omega)).trans F1.out
  have d0 : w5.cell? ⟨w4.heap.size, 0, none⟩ = some (.int .i64 10) := (hL5'.cell (p := ⟨w4.heap.size, 0, none⟩) (by show w4.heap.size < _; omega)).trans c0
  have d1 : w5.cell? ⟨w4.heap.size, 1, none⟩ = some (.int .i64 1) := (hL5'.cell (p := ⟨w4.heap.size, 1, none⟩) (by show w4.heap.size < _; omega)).trans c1
  have hB5 : Below w.heap.size w w5 := back hB4 hL5
  have hv5 := IsL.below HV.out hL5
  have hsI := fun o => sameInts_w _ (.slice (some ⟨w5.heap.size, 0, none⟩) 5 5) [120, 480, 660, 1260, 720] (w5.alloc (.cells (ints [120, 480, 660, 1260, 720]) o)) (IsL.below hv5 ((Below.refl _ _).alloc (Nat.le_refl _) _))
  have hsame := hsI 3 (IsL.built w5 [120, 480, 660, 1260, 720] _ 5 rfl rfl (FB.all (by decide)) (by decide))
  have HSM := hide hsame
  have s1 : w1.heap.size < w5.heap.size := by omega
  have s4 : w4.heap.size < w5.heap.size := by omega
  clear F0 F1 HV hsI hsame hv5 hL5 hL5' hlit hrows r0 r1 r2 i0 i1 i2 iS iW c0 c1 b18 b28 b38 b48 b58 b68 hb48' bA1 bA2 bA3 bA4 bA5 bA6 bA7 bA8 hb5 zA1 zA2 zA3 zA4 zA5 zA6 zA7 zA8
  go_wp2_with fail
  refine HSM.out.mono ?_
  rintro e w6 ⟨rfl, k, rfl⟩
  go_wp2
  go_ret
  exact ⟨rfl, below_drewN (hB5.alloc hB5.size _) _⟩
end Go.Proofs.Ytlpoenoijmifdaa
