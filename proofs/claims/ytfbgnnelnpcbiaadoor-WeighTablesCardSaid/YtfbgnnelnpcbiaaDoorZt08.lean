import Derived.Test.YtfbgnnelnpcbiaaDoorZt07
import Derived.Test.YtfbgnnelnpcbiaaDoorRows
import Derived.WalkKit
import Derived.ProofKit
import Derived.OpenShut
import Derived.ShutString
import Derived.ChangeOld
import Derived.Shelf.Strings.Builder1
import Derived.Test.YtfbgnnelnpcbiaaDoorProg
set_option linter.unusedVariables false
set_option linter.unusedSimpArgs false
namespace Go.Proofs.YtfbgnnelnpcbiaaDoor
open Go.RowKit Go.Shelf

def volE (S W : List Int) (H : List (List Int)) : Int := if tabE S W H = 0 then 2 * sideF (gridL S W) H else 0

theorem Volume_w (a1 a2 a3 : Option Addr) (n1 n2 n3 c1 c2 c3 : Nat) (vs : List Value) (S W : List Int) (H : List (List Int)) (w : World) (i1 : IsL w (.slice a1 n1 c1) S) (i2 : IsL w (.slice a2 n2 c2) W) (i3 : IsRB w.heap.size w (.slice a3 n3 c3) vs H) :
    Calls Tryd.prog 6 #[.agg #[.slice a1 n1 c1, .slice a2 n2 c2, .slice a3 n3 c3]] w fun e w' => e = .returned (.tuple #[.int .i64 (volE S W H), .int .i64 (tabE S W H)]) ∧ Below w.heap.size w w' := by
  have hn1 : n1 = S.length := by obtain ⟨_, _, hv, _⟩ := i1; cases hv; rfl
  have hn2 : n2 = W.length := by obtain ⟨_, _, hv, _⟩ := i2; cases hv; rfl
  have hn3 : n3 = H.length := by obtain ⟨_, _, _, _, hv, _⟩ := i3; cases hv; rfl
  subst hn1; subst hn2; subst hn3
  have hb0 : ∀ o : Obj, Below w.heap.size w (w.alloc o) := fun o => (Below.refl _ _).alloc (Nat.le_refl _) _
  rcases tabE_or S W H with h | h
  · have e : volE S W H = 2 * sideF (gridL S W) H := by unfold volE; rw [if_pos h]
    rw [e, h]
    have hct := fun o => CheckTable_w _ _ _ vs S W H (w.alloc o) (i1.below (hb0 o)) (i2.below (hb0 o)) ((i3.below (hb0 o)).more (by simp))
    rw [h] at hct
    obtain ⟨hS, hW, _⟩ := tab_ok h
    refine (callsIn_wide (n := 10)).1 (Volume_in Fence.wide 10 trivial trivial trivial trivial trivial trivial trivial rfl (by omega) rfl a1 a2 a3 c1 c2 c3 vs S W H w i1 i2 i3 h (hide fun o => callsIn_wide.2 (hct o)) (hide fun w0 hb => callsIn_wide.2 (gridOf_w a1 a2 _ _ c1 c2 S W w0 (i1.below hb) (i2.below hb) hS hW)))
  · have e : volE S W H = 0 := by unfold volE; rw [if_neg (by rw [h]; decide)]
    rw [e, h]
    exact Volume_bad _ _ _ vs S W H w i1 i2 i3 h

def litE (S W : List Int) (H : List (List Int)) : Int := if tabE S W H = 0 then flo (volE S W H) 1296000000 else 0

theorem vol_lim (S W : List Int) (H : List (List Int)) : -8709120000000000000 ≤ volE S W H ∧ volE S W H ≤ 8709120000000000000 := by
  unfold volE; split
  · rename_i h
    have := side_lim h (List.range (gridL S W).length) (by rw [List.length_range, gridL_len]; exact (tab_ok h).1.hi)
    unfold sideF; omega
  · omega

set_option maxHeartbeats 1000000 in
theorem Litres_w (a1 a2 a3 : Option Addr) (n1 n2 n3 c1 c2 c3 : Nat) (vs : List Value) (S W : List Int) (H : List (List Int)) (w : World) (i1 : IsL w (.slice a1 n1 c1) S) (i2 : IsL w (.slice a2 n2 c2) W) (i3 : IsRB w.heap.size w (.slice a3 n3 c3) vs H) :
    Calls Tryd.prog 8 #[.agg #[.slice a1 n1 c1, .slice a2 n2 c2, .slice a3 n3 c3]] w fun e w' => e = .returned (.tuple #[.int .i64 (litE S W H), .int .i64 (tabE S W H)]) ∧ Below w.heap.size w w' := by
  have hb0 : ∀ o : Obj, Below w.heap.size w (w.alloc o) := fun o => (Below.refl _ _).alloc (Nat.le_refl _) _
  have hv := fun o => Volume_w a1 a2 a3 n1 n2 n3 c1 c2 c3 vs S W H (w.alloc o) (i1.below (hb0 o)) (i2.below (hb0 o)) ((i3.below (hb0 o)).more (by simp))
  have hl := vol_lim S W H
  obtain ⟨hl1, hl2⟩ := hl
  have HE : Hid (litE S W H = if tabE S W H = 0 then flo (volE S W H) 1296000000 else 0) := rfl
  rcases tabE_or S W H with h | h
  · rw [h] at hv ⊢
    have HE2 : Hid (litE S W H = flo (volE S W H) 1296000000) := by show _ = _; rw [HE.out, if_pos h]
    have HV := hide hv; clear hv h HE
    go_enter Tryd.func8, Tryd.ntmps8
    go_wp2_with (first | (go_at_call 6; refine (HV.out _).mono ?_; rintro e w1 ⟨rfl, hb1⟩; obtain ⟨hc1, hf1⟩ := bcell hb1; have hz1 := hb1.size; (try simp at hz1); have hs1_0 : w.heap.size < w1.heap.size := (by omega)) | (go_at_call 22; refine (floorDiv_w _ _ _ (by omega) (by omega) (by omega) (by omega)).mono ?_; rintro e w' ⟨rfl, rfl⟩))
    go_ret2
    exact ⟨ret_ii HE2.out.symm rfl, (by repeat (first | exact Below.refl _ _ | assumption | refine Below.alloc ?_ (by first | omega | (simp; omega) | simp) _ | refine Below.setCell ?_ (by first | omega | (simp; omega) | simp) _ | refine below_drewN ?_ _ | refine Below.drew ?_ | refine back ?_ (by assumption)))⟩
  · rw [h] at hv ⊢
    have HE2 : Hid (litE S W H = 0) := by show _ = _; rw [HE.out, if_neg (by rw [h]; decide)]
    have HV := hide hv; clear hv h HE
    go_enter Tryd.func8, Tryd.ntmps8
    go_wp2_with (go_at_call 6; refine (HV.out _).mono ?_; rintro e w1 ⟨rfl, hb1⟩; obtain ⟨hc1, hf1⟩ := bcell hb1; have hz1 := hb1.size; (try simp at hz1); have hs1_0 : w.heap.size < w1.heap.size := (by omega))
    go_ret2
    exact ⟨ret_ii HE2.out.symm rfl, (by repeat (first | exact Below.refl _ _ | assumption | refine Below.alloc ?_ (by first | omega | (simp; omega) | simp) _ | refine Below.setCell ?_ (by first | omega | (simp; omega) | simp) _ | refine below_drewN ?_ _ | refine Below.drew ?_ | refine back ?_ (by assumption)))⟩
end Go.Proofs.YtfbgnnelnpcbiaaDoor

namespace Go.Proofs.YtfbgnnelnpcbiaaDoor
open Go.RowKit Go.Shelf

/-- A slice that has just been built. -/
theorem IsL.built (w : World) (l : List Int) (cs : Array Value) (n : Nat) (hcs : cs = ints l) (hn : n = l.length) (hb : ∀ x ∈ l, FB x) (hm : l.length ≤ 1000000) : IsL (w.alloc (.cells cs 3)) (.slice (some ⟨w.heap.size, 0, none⟩) n n) l := by
  subst hcs
  exact IsLB.of_blk (Blk.new w 3 (ints l)) hn hb hm

theorem FB.all {l : List Int} (h : l.all (fun x => decide (-9223372036854775808 ≤ x) && decide (x ≤ 9223372036854775807)) = true) : ∀ x ∈ l, FB x := by
  intro x hx
  have := (List.all_eq_true.1 h) x hx
  simp only [Bool.and_eq_true, decide_eq_true_eq] at this
  exact this

theorem e_wts : wtsE [0, 10, 20, 50, 90] = [120, 480, 660, 1260, 720] := by decide +kernel
theorem e_pl : pl [0, 10, 20, 50, 90] = 0 := by decide +kernel
theorem e_cen : cenF [0, 10, 20] [1, 1, 1] = (10, 1, 0) := by decide +kernel
theorem e_tab : tabE [0, 1000, 2000] [0, 1000] [[500, 500], [500, 500], [500, 500]] = 0 := by decide +kernel
theorem e_lit : litE [0, 1000, 2000] [0, 1000] [[500, 500], [500, 500], [500, 500]] = 2000 := by decide +kernel
theorem e_mk : mk 6 (-4) = (-3, 2, 0) := by decide +kernel
theorem e_chk : chk (-3) 2 = 0 := by decide +kernel
theorem e_flo : flo (2 * (-3) + 2) (2 * 2) = -1 := by decide +kernel

theorem round_c (w : World) : Calls Tryd.prog 32 #[.agg #[.int .i64 (-3), .int .i64 2]] w fun e w' => e = .returned (.tuple #[.int .i64 (-1), .int .i64 0]) ∧ Below w.heap.size w w' :=
  (round_w (-3) 2 w ⟨by omega, by omega⟩ ⟨by omega, by omega⟩).mono fun _ _ ⟨he, hb⟩ => ⟨by rw [he, e_chk, e_flo]; rfl, hb⟩

theorem weights_c (w : World) (a : Option Addr) (n c : Nat) (h : IsL w (.slice a n c) [0, 10, 20, 50, 90]) : Calls Tryd.prog 33 #[.slice a n c] w fun e w' => ∃ a' c', e = .returned (.tuple #[.slice a' 5 c', .int .i64 0]) ∧ IsL w' (.slice a' 5 c') [120, 480, 660, 1260, 720] ∧ Below w.heap.size w w' := by
  refine (Weights_w a n c _ w h).mono ?_
  rintro e w' ⟨v, he, hv, _, hb⟩
  rw [e_wts] at hv
  rw [e_pl] at he
  obtain ⟨a', c', rfl, _⟩ := id hv
  exact ⟨a', c', he, hv, hb⟩

theorem litres_c (w : World) (a1 a2 a3 : Option Addr) (n1 n2 n3 c1 c2 c3 : Nat) (vs : List Value) (i1 : IsL w (.slice a1 n1 c1) [0, 1000, 2000]) (i2 : IsL w (.slice a2 n2 c2) [0, 1000]) (i3 : IsRB w.heap.size w (.slice a3 n3 c3) vs [[500, 500], [500, 500], [500, 500]]) :
    Calls Tryd.prog 8 #[.agg #[.slice a1 n1 c1, .slice a2 n2 c2, .slice a3 n3 c3]] w fun e w' => e = .returned (.tuple #[.int .i64 2000, .int .i64 0]) ∧ Below w.heap.size w w' :=
  (Litres_w a1 a2 a3 n1 n2 n3 c1 c2 c3 vs _ _ _ w i1 i2 i3).mono fun _ _ ⟨he, hb⟩ => ⟨by rw [he, e_tab, e_lit], hb⟩

set_option maxRecDepth 100000 in
set_option maxHeartbeats 4000000 in
theorem sane_w (w : World) : Calls Tryd.prog 15 #[] w fun e w' => e = .returned (.bool true) ∧ Below w.heap.size w w' := by
  go_enter Tryd.func15, Tryd.ntmps15
  go_wp2_with fail
  refine (make_c (p := -3) (q := 2) (r := 0) (hide e_mk) _ ⟨by omega, by omega⟩ ⟨by omega, by omega⟩).mono ?_
  rintro e w1 ⟨rfl, hb1⟩
  have hz1 := hb1.size
  go_wp2_with fail
  refine (round_c _).mono ?_
  rintro e w2 ⟨rfl, hb2⟩
  have hz2 : w1.heap.size + 1 ≤ w2.heap.size := by have := hb2.size; simpa using this
  have f0 : w2.cell? ⟨w1.heap.size, 0, none⟩ = some (.int .i64 (-3)) := (hb2.cell (p := ⟨w1.heap.size, 0, none⟩) (by simp)).trans (by simp)
  have f1 : w2.cell? ⟨w1.heap.size, 1, none⟩ = some (.int .i64 2) := (hb2.cell (p := ⟨w1.heap.size, 1, none⟩) (by simp)).trans (by simp)
  have hB2 : Below w.heap.size w w2 := (by repeat (first | exact Below.refl _ _ | assumption | refine Below.alloc ?_ (by first | omega | (simp; omega) | simp) _ | refine Below.setCell ?_ (by first | omega | (simp; omega) | simp) _ | refine below_drewN ?_ _ | refine Below.drew ?_ | refine back ?_ (by assumption)))
  have F0 := hide f0; have F1 := hide f1; clear f0 f1 hb1 hb2
  go_wp2_with fail
  refine (weights_c _ _ _ _ (IsL.built w2 [0, 10, 20, 50, 90] _ 5 rfl rfl (FB.all (by decide)) (by decide))).mono ?_
  rintro e w3 ⟨a3, c3, rfl, hv, hb3⟩
  have hL3 : Below w2.heap.size w2 w3 := (by repeat (first | exact Below.refl _ _ | assumption | refine Below.alloc ?_ (by first | omega | (simp; omega) | simp) _ | refine Below.setCell ?_ (by first | omega | (simp; omega) | simp) _ | refine below_drewN ?_ _ | refine Below.drew ?_ | refine back ?_ (by assumption)))
  have hz3 := hL3.size
  have f0 : w3.cell? ⟨w1.heap.size, 0, none⟩ = some (.int .i64 (-3)) := (hL3.cell (p := ⟨w1.heap.size, 0, none⟩) (by show w1.heap.size < _; omega)).trans F0.out
  have f1 : w3.cell? ⟨w1.heap.size, 1, none⟩ = some (.int .i64 2) := (hL3.cell (p := ⟨w1.heap.size, 1, none⟩) (by show w1.heap.size < _; omega)).trans F1.out
  have hB3 : Below w.heap.size w w3 := back hB2 hL3
  clear F0 F1
  have F0 := hide f0; have F1 := hide f1; have HV := hide hv; clear f0 f1 hb3 hv hL3
  go_wp2_with fail
  have hia : ∀ o, IsL ((w3.alloc (.cells (ints [0, 10, 20]) 3)).alloc o) (.slice (some ⟨w3.heap.size, 0, none⟩) 3 3) [0, 10, 20] := fun o => IsL.below (IsL.built w3 [0, 10, 20] _ 3 rfl rfl (FB.all (by decide)) (by decide)) ((Below.refl _ _).alloc (Nat.le_refl _) _)
  have hib : IsL ((w3.alloc (.cells (ints [0, 10, 20]) 3)).alloc (.cells (ints [1, 1, 1]) 3)) (.slice (some ⟨w3.heap.size + 1, 0, none⟩) 3 3) [1, 1, 1] := by
    have := IsL.built (w3.alloc (.cells (ints [0, 10, 20]) 3)) [1, 1, 1] _ 3 rfl rfl (FB.all (by decide)) (by decide)
    rwa [World.size_alloc] at this
  refine (Centre_w (p := 10) (q := 1) (r := 0) [0, 10, 20] [1, 1, 1] (hide e_cen) _ _ _ _ _ _ _ (hia _) hib).mono ?_
  rintro e w4 ⟨rfl, hb4⟩
  clear hia hib
  have hL4 : Below w3.heap.size w3 w4 := (((Below.refl _ _).alloc (Nat.le_refl _) _).alloc (by simp) _).trans (hb4.mono (by simp; omega))
  have hz4 := hL4.size
  have f0 : w4.cell? ⟨w1.heap.size, 0, none⟩ = some (.int .i64 (-3)) := (hL4.cell (p := ⟨w1.heap.size, 0, none⟩) (by show w1.heap.size < _; omega)).trans F0.out
  have f1 : w4.cell? ⟨w1.heap.size, 1, none⟩ = some (.int .i64 2) := (hL4.cell (p := ⟨w1.heap.size, 1, none⟩) (by show w1.heap.size < _; omega)).trans F1.out
  have hB4 : Below w.heap.size w w4 := back hB3 hL4
  have hv4 := IsL.below HV.out hL4
  clear F0 F1 HV
  have F0 := hide f0; have F1 := hide f1; have HV := hide hv4; clear f0 f1 hb4 hv4 hL4
  go_wp2_with fail
  obtain ⟨A1, hA1⟩ : ∃ A, w4.alloc (.cells #[.int .i64 10, .int .i64 1] 61) = A := ⟨_, rfl⟩
  have zA1 : A1.heap.size = w4.heap.size + 1 := by rw [← hA1, World.size_alloc]
  have bA1 : Below w4.heap.size w4 A1 := by rw [← hA1]; exact (Below.refl _ _).alloc (Nat.le_refl _) _
  obtain ⟨A2, hA2⟩ : ∃ A, A1.alloc (.cells #[.int .i64 0, .int .i64 1000, .int .i64 2000] 3) = A := ⟨_, rfl⟩
  have zA2 : A2.heap.size = w4.heap.size + 1 + 1 := by rw [← hA2, World.size_alloc, zA1]
  have bA2 : Below A1.heap.size A1 A2 := by rw [← hA2]; exact (Below.refl _ _).alloc (Nat.le_refl _) _
  obtain ⟨A3, hA3⟩ : ∃ A, A2.alloc (.cells #[.int .i64 0, .int .i64 1000] 3) = A := ⟨_, rfl⟩
  have zA3 : A3.heap.size = w4.heap.size + 1 + 1 + 1 := by rw [← hA3, World.size_alloc, zA2]
  have bA3 : Below A2.heap.size A2 A3 := by rw [← hA3]; exact (Below.refl _ _).alloc (Nat.le_refl _) _
  obtain ⟨A4, hA4⟩ : ∃ A, A3.alloc (.cells #[.int .i64 500, .int .i64 500] 3) = A := ⟨_, rfl⟩
  have zA4 : A4.heap.size = w4.heap.size + 1 + 1 + 1 + 1 := by rw [← hA4, World.size_alloc, zA3]
  have bA4 : Below A3.heap.size A3 A4 := by rw [← hA4]; exact (Below.refl _ _).alloc (Nat.le_refl _) _
  obtain ⟨A5, hA5⟩ : ∃ A, A4.alloc (.cells #[.int .i64 500, .int .i64 500] 3) = A := ⟨_, rfl⟩
  have zA5 : A5.heap.size = w4.heap.size + 1 + 1 + 1 + 1 + 1 := by rw [← hA5, World.size_alloc, zA4]
  have bA5 : Below A4.heap.size A4 A5 := by rw [← hA5]; exact (Below.refl _ _).alloc (Nat.le_refl _) _
  obtain ⟨A6, hA6⟩ : ∃ A, A5.alloc (.cells #[.int .i64 500, .int .i64 500] 3) = A := ⟨_, rfl⟩
  have zA6 : A6.heap.size = w4.heap.size + 1 + 1 + 1 + 1 + 1 + 1 := by rw [← hA6, World.size_alloc, zA5]
  have bA6 : Below A5.heap.size A5 A6 := by rw [← hA6]; exact (Below.refl _ _).alloc (Nat.le_refl _) _
  obtain ⟨A7, hA7⟩ : ∃ A, A6.alloc (.cells #[.slice (some ⟨w4.heap.size + 1 + 1 + 1, 0, none⟩) 2 2, .slice (some ⟨w4.heap.size + 1 + 1 + 1 + 1, 0, none⟩) 2 2, .slice (some ⟨w4.heap.size + 1 + 1 + 1 + 1 + 1, 0, none⟩) 2 2] 22) = A := ⟨_, rfl⟩
  have zA7 : A7.heap.size = w4.heap.size + 1 + 1 + 1 + 1 + 1 + 1 + 1 := by rw [← hA7, World.size_alloc, zA6]
  have bA7 : Below A6.heap.size A6 A7 := by rw [← hA7]; exact (Below.refl _ _).alloc (Nat.le_refl _) _
  obtain ⟨A8, hA8⟩ : ∃ A, A7.alloc (.cells #[.slice (some ⟨w4.heap.size + 1, 0, none⟩) 3 3, .slice (some ⟨w4.heap.size + 1 + 1, 0, none⟩) 2 2, .slice (some ⟨w4.heap.size + 1 + 1 + 1 + 1 + 1 + 1, 0, none⟩) 3 3] 25) = A := ⟨_, rfl⟩
  have zA8 : A8.heap.size = w4.heap.size + 1 + 1 + 1 + 1 + 1 + 1 + 1 + 1 := by rw [← hA8, World.size_alloc, zA7]
  have bA8 : Below A7.heap.size A7 A8 := by rw [← hA8]; exact (Below.refl _ _).alloc (Nat.le_refl _) _
  have c0 : A1.cell? ⟨w4.heap.size, 0, none⟩ = some (.int .i64 10) := by rw [← hA1]; simp
  have c1 : A1.cell? ⟨w4.heap.size, 1, none⟩ = some (.int .i64 1) := by rw [← hA1]; simp
  have iS : IsL A2 (.slice (some ⟨w4.heap.size + 1, 0, none⟩) 3 3) [0, 1000, 2000] := by
    have := IsL.built A1 [0, 1000, 2000] _ 3 rfl rfl (FB.all (by decide)) (by decide)
    rw [zA1] at this; rw [← hA2]; exact this
  have iW : IsL A3 (.slice (some ⟨w4.heap.size + 1 + 1, 0, none⟩) 2 2) [0, 1000] := by
    have := IsL.built A2 [0, 1000] _ 2 rfl rfl (FB.all (by decide)) (by decide)
    rw [zA2] at this; rw [← hA3]; exact this
  have i0 : IsL A4 (.slice (some ⟨w4.heap.size + 1 + 1 + 1, 0, none⟩) 2 2) [500, 500] := by
    have := IsL.built A3 [500, 500] _ 2 rfl rfl (FB.all (by decide)) (by decide)
    rw [zA3] at this; rw [← hA4]; exact this
  have i1 : IsL A5 (.slice (some ⟨w4.heap.size + 1 + 1 + 1 + 1, 0, none⟩) 2 2) [500, 500] := by
    have := IsL.built A4 [500, 500] _ 2 rfl rfl (FB.all (by decide)) (by decide)
    rw [zA4] at this; rw [← hA5]; exact this
  have i2 : IsL A6 (.slice (some ⟨w4.heap.size + 1 + 1 + 1 + 1 + 1, 0, none⟩) 2 2) [500, 500] := by
    have := IsL.built A5 [500, 500] _ 2 rfl rfl (FB.all (by decide)) (by decide)
    rw [zA5] at this; rw [← hA6]; exact this
  have r0 : A7.cell? ⟨w4.heap.size + 1 + 1 + 1 + 1 + 1 + 1, 0, none⟩ = some (.slice (some ⟨w4.heap.size + 1 + 1 + 1, 0, none⟩) 2 2) := by rw [← hA7, ← zA6]; simp
  have r1 : A7.cell? ⟨w4.heap.size + 1 + 1 + 1 + 1 + 1 + 1, 1, none⟩ = some (.slice (some ⟨w4.heap.size + 1 + 1 + 1 + 1, 0, none⟩) 2 2) := by rw [← hA7, ← zA6]; simp
  have r2 : A7.cell? ⟨w4.heap.size + 1 + 1 + 1 + 1 + 1 + 1, 2, none⟩ = some (.slice (some ⟨w4.heap.size + 1 + 1 + 1 + 1 + 1, 0, none⟩) 2 2) := by rw [← hA7, ← zA6]; simp
  have b68 : Below A6.heap.size A6 A8 := bA7.trans (bA8.mono bA7.size)
  have b58 : Below A5.heap.size A5 A8 := bA6.trans (b68.mono bA6.size)
  have b48 : Below A4.heap.size A4 A8 := bA5.trans (b58.mono bA5.size)
  have b38 : Below A3.heap.size A3 A8 := bA4.trans (b48.mono bA4.size)
  have b28 : Below A2.heap.size A2 A8 := bA3.trans (b38.mono bA3.size)
  have b18 : Below A1.heap.size A1 A8 := bA2.trans (b28.mono bA2.size)
  have hb48' : Below w4.heap.size w4 A8 := bA1.trans (b18.mono bA1.size)
  have hrows : IsRB A8.heap.size A8 (.slice (some ⟨w4.heap.size + 1 + 1 + 1 + 1 + 1 + 1, 0, none⟩) 3 3) [.slice (some ⟨w4.heap.size + 1 + 1 + 1, 0, none⟩) 2 2, .slice (some ⟨w4.heap.size + 1 + 1 + 1 + 1, 0, none⟩) 2 2, .slice (some ⟨w4.heap.size + 1 + 1 + 1 + 1 + 1, 0, none⟩) 2 2] [[500, 500], [500, 500], [500, 500]] := by
    refine ⟨rfl, fun i hi => ?_, some ⟨w4.heap.size + 1 + 1 + 1 + 1 + 1 + 1, 0, none⟩, 3, rfl, Nat.le_refl _, by unfold maxLen; decide, fun _ => ⟨w4.heap.size + 1 + 1 + 1 + 1 + 1 + 1, 0, rfl, by rw [zA8]; omega, fun i hi => ?_⟩⟩
    · match i, hi with
      | 0, _ => exact IsL.below i0 b48
      | 1, _ => exact IsL.below i1 b58
      | 2, _ => exact IsL.below i2 b68
    · match i, hi with
      | 0, _ => exact (bA8.cell (p := ⟨w4.heap.size + 1 + 1 + 1 + 1 + 1 + 1, 0, none⟩) (by show w4.heap.size + 1 + 1 + 1 + 1 + 1 + 1 < A7.heap.size; rw [zA7]; omega)).trans r0
      | 1, _ => exact (bA8.cell (p := ⟨w4.heap.size + 1 + 1 + 1 + 1 + 1 + 1, 1, none⟩) (by show w4.heap.size + 1 + 1 + 1 + 1 + 1 + 1 < A7.heap.size; rw [zA7]; omega)).trans r1
      | 2, _ => exact (bA8.cell (p := ⟨w4.heap.size + 1 + 1 + 1 + 1 + 1 + 1, 2, none⟩) (by show w4.heap.size + 1 + 1 + 1 + 1 + 1 + 1 < A7.heap.size; rw [zA7]; omega)).trans r2
  have hlit := litres_c A8 _ _ _ _ _ _ _ _ _ _ (IsL.below iS b28) (IsL.below iW b38) hrows
  rw [hA1, hA2, hA3, hA4, hA5, hA6, hA7, hA8]
  clear hA1 hA2 hA3 hA4 hA5 hA6 hA7 hA8
  refine hlit.mono ?_
  rintro e w5 ⟨rfl, hb5⟩
  have hL5 : Below w4.heap.size w4 w5 := hb48'.trans (hb5.mono hb48'.size)
  have hL5' : Below A1.heap.size A1 w5 := b18.trans (hb5.mono b18.size)
  have hz5 : w4.heap.size + 1 ≤ w5.heap.size := by have := hL5'.size; omega
  have f0 : w5.cell? ⟨w1.heap.size, 0, none⟩ = some (.int .i64 (-3)) := (hL5.cell (p := ⟨w1.heap.size, 0, none⟩) (by show w1.heap.size < _; omega)).trans F0.out
  have f1 : w5.cell? ⟨w1.heap.size, 1, none⟩ = some (.int .i64 2) := (hL5.cell (p := ⟨w1.heap.size, 1, none⟩) (by show w1.heap.size < _; omega)).trans F1.out
  have d0 : w5.cell? ⟨w4.heap.size, 0, none⟩ = some (.int .i64 10) := (hL5'.cell (p := ⟨w4.heap.size, 0, none⟩) (by show w4.heap.size < _; omega)).trans c0
  have d1 : w5.cell? ⟨w4.heap.size, 1, none⟩ = some (.int .i64 1) := (hL5'.cell (p := ⟨w4.heap.size, 1, none⟩) (by show w4.heap.size < _; omega)).trans c1
  have hB5 : Below w.heap.size w w5 := back hB4 hL5
  have hv5 := IsL.below HV.out hL5
  have hsI := fun o => sameInts_w _ (.slice (some ⟨w5.heap.size, 0, none⟩) 5 5) [120, 480, 660, 1260, 720] (w5.alloc (.cells (ints [120, 480, 660, 1260, 720]) o)) (IsL.below hv5 ((Below.refl _ _).alloc (Nat.le_refl _) _))
  have hsame := hsI 3 (IsL.built w5 [120, 480, 660, 1260, 720] _ 5 rfl rfl (FB.all (by decide)) (by decide))
  have HSM := hide hsame
  have s1 : w1.heap.size < w5.heap.size := by omega
  have s4 : w4.heap.size < w5.heap.size := by omega
  clear F0 F1 HV hsI hsame hv5 hL5 hL5' hlit hrows r0 r1 r2 i0 i1 i2 iS iW c0 c1 b18 b28 b38 b48 b58 b68 hb48' bA1 bA2 bA3 bA4 bA5 bA6 bA7 bA8 hb5 zA1 zA2 zA3 zA4 zA5 zA6 zA7 zA8
  go_wp2_with fail
  refine HSM.out.mono ?_
  rintro e w6 ⟨rfl, k, rfl⟩
  go_wp2
  go_ret
  exact ⟨rfl, below_drewN (hB5.alloc hB5.size _) _⟩
end Go.Proofs.YtfbgnnelnpcbiaaDoor

namespace Go.Proofs.YtfbgnnelnpcbiaaDoor
open Go.ChangeShapes Go.WideShapes Go.ChangeAt Go.RowKit

theorem own : ownKnob Tryd.prog.godebug = none := by kernel_rfl
theorem laidOut : laidOutB Tryd.prog = true := by kernel_rfl

/-- A slice of integers that came in: it is nil, or leads to a row of 'cap' cells; the first 'len' are its elements. -/
def IsRow (k : IntKind) (w : World) (a : Option Addr) (len cap : Nat) (zs : List Int) : Prop :=
  (a = none ∧ len = 0 ∧ cap = 0 ∧ zs = []) ∨
  ∃ x, a = some x ∧ len ≤ cap ∧ cap ≤ maxLen ∧ zs.length = cap ∧ (∀ i, i < zs.length → w.cell? (x.add i) = some (.int k (zs.getD i 0))) ∧ ∀ n ∈ zs, (Lit.int k n).wf = true

theorem wf_FB {n : Int} (h : (Lit.int .i64 n).wf = true) : FB n := by
  simp [Lit.wf, IntKind.min, IntKind.max, IntKind.signed, IntKind.bits] at h
  unfold FB; omega

theorem lt_of_cell {w : World} {p : Addr} {v : Value} (h : w.cell? p = some v) : p.block < w.heap.size := by
  rcases Nat.lt_or_ge p.block w.heap.size with hlt | hge
  · exact hlt
  · unfold World.cell? at h; rw [Array.getElem?_eq_none hge] at h; simp at h

theorem isL_of_row {w : World} {a : Option Addr} {len cap : Nat} {zs : List Int} (h : IsRow .i64 w a len cap zs) : IsL w (.slice a len cap) (zs.take len) := by
  rcases h with ⟨rfl, rfl, rfl, rfl⟩ | ⟨x, rfl, hl, hm, hz, hc, hwf⟩
  · exact ⟨none, 0, rfl, Nat.le_refl _, Nat.zero_le _, by simp, fun h => absurd rfl h⟩
  · have hlen : (zs.take len).length = len := by rw [List.length_take]; omega
    refine ⟨some x, cap, by rw [hlen], by omega, hm, fun y hy => wf_FB (hwf y (List.mem_of_mem_take hy)), fun hne => ?_⟩
    have hpos : 0 < len := by
      rcases Nat.eq_zero_or_pos len with h0 | h0
      · subst h0; simp at hne
      · exact h0
    obtain ⟨b, off, spot⟩ := x
    have h0 := hc 0 (by omega)
    have hspot : spot = none := by simpa [Addr.add] using World.cell?_spot h0
    subst hspot
    refine ⟨b, off, rfl, ?_, fun i hi => ?_⟩
    · have := lt_of_cell h0
      simpa [Addr.add] using this
    · have h1 := hc i (by omega)
      have e : (zs.take len)[i]?.getD 0 = zs.getD i 0 := by rw [List.getElem?_take_of_lt (by omega)]; rw [List.getD_eq_getElem?_getD]
      rw [e]
      by_cases hi0 : i = 0
      · subst hi0; simpa [Addr.add] using h1
      · simpa [Addr.add, hi0] using h1
end Go.Proofs.YtfbgnnelnpcbiaaDoor

namespace Go.Proofs.YtfbgnnelnpcbiaaDoor
open Go.Shelf Go.Proofs

/-- The numbers of the library's functions and types in this program. -/
def bren : Go.Shelf.Ren := ⟨fun | 166 => 42 | 167 => 43 | 169 => 27 | 240 => 56 | 276 => 64 | n => n, fun | 0 => 0 | 1 => 1 | 2 => 2 | 3 => 3 | 4 => 4 | 5 => 5 | 6 => 6 | 7 => 7 | 8 => 8 | 9 => 9 | 10 => 10 | 11 => 11 | 12 => 12 | 13 => 13 | 14 => 14 | 15 => 15 | 16 => 16 | 17 => 17 | 18 => 18 | 19 => 19 | 20 => 20 | 21 => 21 | 28 => 22 | 34 => 39 | 37 => 49 | 43 => 47 | 46 => 110 | 47 => 111 | 51 => 107 | 52 => 112 | 53 => 83 | 54 => 100 | 70 => 48 | 71 => 50 | 72 => 51 | 74 => 74 | 75 => 75 | 76 => 76 | 77 => 77 | 78 => 78 | 80 => 57 | 81 => 120 | 83 => 79 | 84 => 98 | 111 => 109 | 112 => 73 | 114 => 104 | 127 => 82 | 164 => 96 | 165 => 97 | 171 => 99 | 172 => 101 | 173 => 102 | 174 => 103 | 185 => 59 | 211 => 105 | 212 => 106 | 213 => 108 | 232 => 113 | 233 => 114 | 238 => 115 | 239 => 116 | 240 => 117 | 241 => 118 | 242 => 119 | 243 => 121 | 244 => 122 | 245 => 123 | 246 => 124 | 247 => 125 | 248 => 126 | 249 => 127 | n => n, fun | n => n⟩
theorem blays166 : Go.Proofs.Lays.n166 Tryd.prog bren := {
  mixed := by kernel_rfl
  f166 := Tryd.func42.trans (congrArg some (by kernel_rfl))
  f240 := Tryd.func56.trans (congrArg some (by kernel_rfl))
  f276 := Tryd.func64.trans (congrArg some (by kernel_rfl))
  t0 := Tryd.underlying0
  a0 := Tryd.isAgg0
  z0 := Tryd.sizeOf0
  v0 := Tryd.zeroValue0
  t3 := Tryd.underlying3
  a3 := Tryd.isAgg3
  z3 := Tryd.sizeOf3
  v3 := Tryd.zeroValue3
  t4 := Tryd.underlying4
  a4 := Tryd.isAgg4
  z4 := Tryd.sizeOf4
  v4 := Tryd.zeroValue4
  t9 := Tryd.underlying9
  a9 := Tryd.isAgg9
  z9 := Tryd.sizeOf9
  v9 := Tryd.zeroValue9
  t20 := Tryd.underlying20
  a20 := Tryd.isAgg20
  z20 := Tryd.sizeOf20
  v20 := Tryd.zeroValue20
  t37 := Tryd.underlying49
  a37 := Tryd.isAgg49
  z37 := Tryd.sizeOf49
  v37 := Tryd.zeroValue49
  t70 := Tryd.underlying48
  a70 := Tryd.isAgg48
  z70 := Tryd.sizeOf48
  v70 := Tryd.zeroValue48
  t72 := Tryd.underlying51
  a72 := Tryd.isAgg51
  z72 := Tryd.sizeOf51
  v72 := Tryd.zeroValue51
  t75 := Tryd.underlying75
  a75 := Tryd.isAgg75
  z75 := Tryd.sizeOf75
  v75 := Tryd.zeroValue75
  t164 := Tryd.underlying96
  a164 := Tryd.isAgg96
  z164 := Tryd.sizeOf96
  v164 := Tryd.zeroValue96
}
theorem blays167 : Go.Proofs.Lays.n167 Tryd.prog bren := {
  mixed := by kernel_rfl
  f167 := Tryd.func43.trans (congrArg some (by kernel_rfl))
  f240 := Tryd.func56.trans (congrArg some (by kernel_rfl))
  f276 := Tryd.func64.trans (congrArg some (by kernel_rfl))
  t0 := Tryd.underlying0
  a0 := Tryd.isAgg0
  z0 := Tryd.sizeOf0
  v0 := Tryd.zeroValue0
  t4 := Tryd.underlying4
  a4 := Tryd.isAgg4
  z4 := Tryd.sizeOf4
  v4 := Tryd.zeroValue4
  t5 := Tryd.underlying5
  a5 := Tryd.isAgg5
  z5 := Tryd.sizeOf5
  v5 := Tryd.zeroValue5
  t9 := Tryd.underlying9
  a9 := Tryd.isAgg9
  z9 := Tryd.sizeOf9
  v9 := Tryd.zeroValue9
  t20 := Tryd.underlying20
  a20 := Tryd.isAgg20
  z20 := Tryd.sizeOf20
  v20 := Tryd.zeroValue20
  t37 := Tryd.underlying49
  a37 := Tryd.isAgg49
  z37 := Tryd.sizeOf49
  v37 := Tryd.zeroValue49
  t70 := Tryd.underlying48
  a70 := Tryd.isAgg48
  z70 := Tryd.sizeOf48
  v70 := Tryd.zeroValue48
  t72 := Tryd.underlying51
  a72 := Tryd.isAgg51
  z72 := Tryd.sizeOf51
  v72 := Tryd.zeroValue51
  t75 := Tryd.underlying75
  a75 := Tryd.isAgg75
  z75 := Tryd.sizeOf75
  v75 := Tryd.zeroValue75
  t164 := Tryd.underlying96
  a164 := Tryd.isAgg96
  z164 := Tryd.sizeOf96
  v164 := Tryd.zeroValue96
}
theorem blays169 : Go.Proofs.Lays.n169 Tryd.prog bren := {
  mixed := by kernel_rfl
  f169 := Tryd.func27.trans (congrArg some (by kernel_rfl))
  t0 := Tryd.underlying0
  a0 := Tryd.isAgg0
  z0 := Tryd.sizeOf0
  v0 := Tryd.zeroValue0
  t3 := Tryd.underlying3
  a3 := Tryd.isAgg3
  z3 := Tryd.sizeOf3
  v3 := Tryd.zeroValue3
  t9 := Tryd.underlying9
  a9 := Tryd.isAgg9
  z9 := Tryd.sizeOf9
  v9 := Tryd.zeroValue9
  t37 := Tryd.underlying49
  a37 := Tryd.isAgg49
  z37 := Tryd.sizeOf49
  v37 := Tryd.zeroValue49
  t70 := Tryd.underlying48
  a70 := Tryd.isAgg48
  z70 := Tryd.sizeOf48
  v70 := Tryd.zeroValue48
  t72 := Tryd.underlying51
  a72 := Tryd.isAgg51
  z72 := Tryd.sizeOf51
  v72 := Tryd.zeroValue51
  t127 := Tryd.underlying82
  a127 := Tryd.isAgg82
  z127 := Tryd.sizeOf82
  v127 := Tryd.zeroValue82
}
theorem bextra : Builder.Extra Tryd.prog bren := {
  sizeBuilder := by kernel_rfl
  liesBuilder := by kernel_rfl
  t5 := Tryd.underlying5
  a5 := Tryd.isAgg5
  z5 := Tryd.sizeOf5
  v5 := Tryd.zeroValue5
  infoByte := by kernel_rfl
  cellsByte := by kernel_rfl
  sizeByte := by kernel_rfl
  neB5 := by decide }
end Go.Proofs.YtfbgnnelnpcbiaaDoor

namespace Go.Proofs.YtfbgnnelnpcbiaaDoor
open Go.RowKit Go.Shelf

theorem all_imp {f g : Int → Bool} (xs : List Int) (h : ∀ x, f x = true → g x = true) (ha : xs.all f = true) : xs.all g = true := by
  rw [List.all_eq_true] at ha ⊢
  exact fun x hx => h x (ha x hx)

theorem rise_waters (W : List Int) : rise 7 15000 W = (rise 9 100000 W && decide ((W.length : Int) ≤ 7) && W.all (inB 0 15000)) := by
  unfold rise
  cases h1 : W.all (inB 0 15000) with
  | false => simp
  | true =>
    have h2 : W.all (inB 0 100000) = true := all_imp W (fun x hx => by simp only [inB, decide_eq_true_eq] at hx ⊢; omega) h1
    rw [h2]
    by_cases h7 : (W.length : Int) ≤ 7
    · have h9 : (W.length : Int) ≤ 9 := by omega
      simp [h7, h9]
    · simp [h7]

theorem planB_rise (S W : List Int) : planB S W = (rise 9 100000 S && rise 7 15000 W) := by
  unfold planB; rw [rise_waters]; simp [Bool.and_assoc]

set_option maxHeartbeats 1000000 in
theorem isTable_w (a1 a2 : Option Addr) (n1 n2 c1 c2 : Nat) (S W : List Int) (w : World) (i1 : IsL w (.slice a1 n1 c1) S) (i2 : IsL w (.slice a2 n2 c2) W) :
    Calls Tryd.prog 18 #[.slice a1 n1 c1, .slice a2 n2 c2] w fun e w' => e = .returned (.bool (planB S W)) ∧ Drew w w' := by
  have R1 := rising_w a1 n1 c1 S 9 100000 w i1
  have R2 := fun k : Nat => rising_w a2 n2 c2 W 7 15000 (w.drewN k) (i2.drewN k)
  have hP := planB_rise S W
  cases h1 : rise 9 100000 S with
  | false =>
    rw [h1] at R1 hP
    have HR := hide R1; have HP := hide hP
    clear R1 R2 hP h1
    go_enter Tryd.func18, Tryd.ntmps18
    go_wp2_with (go_at_call 37; refine HR.out.mono ?_; rintro e w' ⟨rfl, k, rfl⟩)
    go_ret
    exact ⟨by rw [HP.out]; rfl, (by first | exact ⟨_, rfl⟩ | exact ⟨_, World.drewN_drewN _ _ _⟩)⟩
  | true =>
    rw [h1, Bool.true_and] at hP
    rw [h1] at R1
    rw [hP]
    have HR := hide R1; have HR2 := hide R2
    clear R1 R2 hP h1
    obtain ⟨b, hb⟩ : ∃ b, rise 7 15000 W = b := ⟨_, rfl⟩
    rw [hb] at HR2 ⊢
    clear hb
    go_enter Tryd.func18, Tryd.ntmps18
    go_wp2_with fail
    refine HR.out.mono ?_
    rintro e w' ⟨rfl, k, rfl⟩
    go_wp2_with fail
    refine (HR2.out _).mono ?_
    rintro e w' ⟨rfl, k2, rfl⟩
    go_wp2_with fail
    go_ret
    exact ⟨rfl, (by first | exact ⟨_, rfl⟩ | exact ⟨_, World.drewN_drewN _ _ _⟩)⟩

theorem rowL_at {w : World} {g off n c : Nat} {xs : List Int} (h : IsL w (.slice (some ⟨g, off, none⟩) n c) xs) {i : Nat} (hi : i < xs.length) : w.cell? ⟨g, off + i, none⟩ = some (.int .i64 (at_ xs i)) := by
  obtain ⟨_, _, hv, _, _, _, h4⟩ := h
  obtain ⟨rfl, _, rfl⟩ := Value.slice.inj hv
  obtain ⟨_, _, e, _, hc⟩ := h4 (by intro h; rw [h] at hi; simp at hi)
  cases e
  exact hc i hi

set_option maxRecDepth 100000 in
set_option maxHeartbeats 4000000 in
theorem rCheckTable_w (vS vW vH : Value) (vs : List Value) (S W : List Int) (H : List (List Int)) (w : World) (i1 : IsL w vS S) (i2 : IsL w vW W) (i3 : IsRB w.heap.size w vH vs H) :
    Calls Tryd.prog 14 #[.agg #[vS, vW, vH]] w fun e w' => e = .returned (.int .i64 (tabE S W H)) ∧ Below w.heap.size w w' := by
  obtain ⟨a1, c1, rfl, _⟩ := id i1
  obtain ⟨a2, c2, rfl, _⟩ := id i2
  obtain ⟨h0, hrow, a3, c3, rfl, l3, m3, k3⟩ := i3
  unfold maxLen at m3
  have hb0 : ∀ o : Obj, Below w.heap.size w (w.alloc o) := fun o => (Below.refl _ _).alloc (Nat.le_refl _) _
  have hpl := fun o => isTable_w a1 a2 S.length W.length c1 c2 S W (w.alloc o) (i1.below (hb0 o)) (i2.below (hb0 o))
  have HPL := hide hpl; clear hpl
  cases hp : planB S W with
  | false =>
    have E : Hid (tabE S W H = 13) := tab_not1 hp
    rw [hp] at HPL
    clear hp
    go_enter Tryd.func14, Tryd.ntmps14
    go_wp2_with (go_at_call 18; refine (HPL.out _).mono ?_; rintro e w' ⟨rfl, k, rfl⟩)
    go_ret
    exact ⟨ret_int E.out.symm, (by repeat (first | exact Below.refl _ _ | assumption | refine Below.alloc ?_ (by first | omega | (simp; omega) | simp) _ | refine Below.setCell ?_ (by first | omega | (simp; omega) | simp) _ | refine below_drewN ?_ _ | refine Below.drew ?_ | refine back ?_ (by assumption)))⟩
  | true =>
    rw [hp] at HPL
    have hw9 : W.length ≤ 9 := by
      unfold planB at hp
      simp only [Bool.and_eq_true, decide_eq_true_eq] at hp
      exact (Pos.of hp.1.1.2).hi
    by_cases hl : H.length = S.length
    · have d1 : ((H.length : Int) != (S.length : Int)) = false := by simp; omega
      have EN := hide (tab_not3 (S := S) (W := W) (H := H))
      have EY : Hid (H.all (rowB W) = true → tabE S W H = 0) := by intro h; unfold tabE tabB; rw [hp, decide_eq_true hl, h]; rfl
      clear hl hp
      have HROW := hide hrow; clear hrow
      go_enter Tryd.func14, Tryd.ntmps14
      go_wp2_with (go_at_call 18; refine (HPL.out _).mono ?_; rintro e w' ⟨rfl, k, rfl⟩)
      go_loopw [3, 4] (fun i j wr => ∃ k n : Nat, i = .int .i64 k ∧ k ≤ H.length ∧ Hid ((H.take k).all (rowB W) = true) ∧ wr = (w.alloc (.cells #[.slice a1 S.length c1, .slice a2 W.length c2, .slice a3 H.length c3] 25)).drewN n) (fun i _ _ => H.length - (intOf i).toNat)
      case atStart => exact ⟨0, _, rfl, Nat.zero_le _, hide (by simp), rfl⟩
      case round =>
        obtain ⟨k, n, rfl, hk, hall, rfl⟩ := hrel
        by_cases hlt : k < H.length
        · obtain ⟨b, off, rfl, hbl, hc⟩ := k3 (by intro h; subst h; simp at hlt)
          have hck := hc k hlt
          have hrk := HROW.out k hlt
          have hx : H[k]?.getD [] = H[k] := by simp [hlt]
          rw [hx] at hrk
          have hta := take_all (rowB W) H k hlt
          have htf := all_false (rowB W) H k hlt
          obtain ⟨r, hr⟩ : ∃ r, H[k] = r := ⟨_, rfl⟩
          rw [hr] at hrk hta htf
          have HTA := hide hta; have HTF := hide htf
          have hri := hrk
          obtain ⟨ar, cr, hvr, _⟩ := hrk
          rw [hvr] at hck hri
          have HRI := hide hri
          clear hri hvr hr hta htf hx hc
          have hl3 : (k : Int) < H.length := by omega
          by_cases hl4 : r.length = W.length
          · have d2 : ((r.length : Int) != (W.length : Int)) = false := by simp; omega
            have HL4 := hide hl4
            have hIN := fun (m : Nat) (hm : m < r.length) => take_all (inB 0 20000) r m hm
            have hIF := fun (m : Nat) (hm : m < r.length) => all_false (inB 0 20000) r m hm
            have HIN := hide hIN; have HIF := hide hIF
            clear hl4 hIN hIF
            go_wp2_with fail
            go_quiet (fail)
            go_wp2_with fail
            go_loopw [4] (fun j wr => ∃ m n' : Nat, j = .int .i64 m ∧ m ≤ W.length ∧ Hid ((r.take m).all (inB 0 20000) = true) ∧ wr = (w.alloc (.cells #[.slice a1 S.length c1, .slice a2 W.length c2, .slice (some ⟨b, off, none⟩) H.length c3] 25)).drewN n') (fun j _ => W.length - (intOf j).toNat)
            case atStart => exact ⟨0, _, rfl, Nat.zero_le _, hide (by simp), (by first | rfl | exact World.drewN_drewN _ _ _)⟩
            case round =>
              obtain ⟨m, n', rfl, hm, hin, rfl⟩ := hrel
              by_cases hml : m < W.length
              · have hl5 : (m : Int) < W.length := by omega
                have hmr : m < r.length := by have := HL4.out; omega
                have hmr3 : (m : Int) < r.length := by omega
                obtain ⟨b', off', rfl⟩ : ∃ b' off', ar = some ⟨b', off', none⟩ := by
                  obtain ⟨_, _, hv, _, _, _, h4⟩ := HRI.out
                  obtain ⟨rfl, _, _⟩ := Value.slice.inj hv
                  obtain ⟨b', off', e, _⟩ := h4 (by intro h; rw [h] at hmr; simp at hmr)
                  exact ⟨b', off', e⟩
                have cx := rowL_at (IsL.below HRI.out (hb0 (.cells #[.slice a1 S.length c1, .slice a2 W.length c2, .slice (some ⟨b, off, none⟩) H.length c3] 25))) hmr
                have hI := HIN.out m hmr
                have hF := HIF.out m hmr
                have hxe : r[m] = at_ r m := (at_get hmr).symm
                rw [hxe] at hI hF
                obtain ⟨x, hx⟩ : ∃ x, at_ r m = x := ⟨_, rfl⟩
                rw [hx] at cx hI hF
                have HI := hide hI; have HF := hide hF
                clear hI hF hxe hx
                by_cases hx0 : x < 0
                · have HN := hide (EN.out (HTF.out (by unfold rowB; rw [HF.out (by simp [inB]; omega)]; simp)))
                  go_wp2
                  go_ret
                  exact ⟨ret_int HN.out.symm, (by repeat (first | exact Below.refl _ _ | assumption | refine Below.alloc ?_ (by first | omega | (simp; omega) | simp) _ | refine Below.setCell ?_ (by first | omega | (simp; omega) | simp) _ | refine below_drewN ?_ _ | refine Below.drew ?_ | refine back ?_ (by assumption)))⟩
                by_cases hx1 : 20000 < x
                · have HN := hide (EN.out (HTF.out (by unfold rowB; rw [HF.out (by simp [inB]; omega)]; simp)))
                  go_wp2
                  go_ret
                  exact ⟨ret_int HN.out.symm, (by repeat (first | exact Below.refl _ _ | assumption | refine Below.alloc ?_ (by first | omega | (simp; omega) | simp) _ | refine Below.setCell ?_ (by first | omega | (simp; omega) | simp) _ | refine below_drewN ?_ _ | refine Below.drew ?_ | refine back ?_ (by assumption)))⟩
                · have HN : Hid ((r.take (m + 1)).all (inB 0 20000) = true) := by show _ = _; rw [HI.out, hin.out]; simp [inB]; omega
                  go_wp2_with fail
                  go_roundw
                  case rel => exact ⟨m + 1, _, by go_num, by omega, HN, (by first | rfl | exact World.drewN_drewN _ _ _)⟩
                  case measure => simp [intOf]; omega
              · have hl5 : ¬ ((m : Int) < W.length) := by omega
                have HN : Hid ((H.take (k + 1)).all (rowB W) = true) := by
                  show _ = _
                  have := hin.out
                  rw [List.take_of_length_le (by have := HL4.out; omega)] at this
                  rw [HTA.out, hall.out]; unfold rowB; rw [this, decide_eq_true HL4.out]; rfl
                go_wp2_with fail
                go_roundw
                case rel => exact ⟨k + 1, _, by go_num, by omega, HN, (by first | rfl | exact World.drewN_drewN _ _ _)⟩
                case measure => simp [intOf]; omega
          · have d2 : ((r.length : Int) != (W.length : Int)) = true := by simp; omega
            have HN := hide (EN.out (HTF.out (by unfold rowB; rw [decide_eq_false hl4]; simp)))
            clear hl4
            go_wp2_with fail
            go_quiet (fail)
            go_wp2
            go_ret
            exact ⟨ret_int HN.out.symm, (by repeat (first | exact Below.refl _ _ | assumption | refine Below.alloc ?_ (by first | omega | (simp; omega) | simp) _ | refine Below.setCell ?_ (by first | omega | (simp; omega) | simp) _ | refine below_drewN ?_ _ | refine Below.drew ?_ | refine back ?_ (by assumption)))⟩
        · have hl3 : ¬ ((k : Int) < H.length) := by omega
          have HN := hide (EY.out (by have := hall.out; rw [List.take_of_length_le (by omega)] at this; exact this))
          go_wp2
          go_ret
          exact ⟨ret_int HN.out.symm, (by repeat (first | exact Below.refl _ _ | assumption | refine Below.alloc ?_ (by first | omega | (simp; omega) | simp) _ | refine Below.setCell ?_ (by first | omega | (simp; omega) | simp) _ | refine below_drewN ?_ _ | refine Below.drew ?_ | refine back ?_ (by assumption)))⟩
    · have d1 : ((H.length : Int) != (S.length : Int)) = true := by simp; omega
      have E : Hid (tabE S W H = 13) := tab_not2 hl
      clear hl hp
      go_enter Tryd.func14, Tryd.ntmps14
      go_wp2_with (go_at_call 18; refine (HPL.out _).mono ?_; rintro e w' ⟨rfl, k, rfl⟩)
      go_ret
      exact ⟨ret_int E.out.symm, (by repeat (first | exact Below.refl _ _ | assumption | refine Below.alloc ?_ (by first | omega | (simp; omega) | simp) _ | refine Below.setCell ?_ (by first | omega | (simp; omega) | simp) _ | refine below_drewN ?_ _ | refine Below.drew ?_ | refine back ?_ (by assumption)))⟩
end Go.Proofs.YtfbgnnelnpcbiaaDoor
