import Derived.Test.YtlpoenoijmifdaaVol
set_option linter.unusedVariables false
set_option linter.unusedSimpArgs false
namespace Go.Proofs.Ytlpoenoijmifdaa
open Go.RowKit Go.Shelf

def volE (S W : List Int) (H : List (List Int)) : Int := if tabE S W H = 0 then 2 * sideF (gridL S W) H else 0

theorem Volume_w (a1 a2 a3 : Option Addr) (n1 n2 n3 c1 c2 c3 : Nat) (vs : List Value) (S W : List Int) (H : List (List Int)) (w : World) (i1 : IsL w (.slice a1 n1 c1) S) (i2 : IsL w (.slice a2 n2 c2) W) (i3 : IsRB w.heap.size w (.slice a3 n3 c3) vs H) :
    Calls Try.prog 57 #[.agg #[.slice a1 n1 c1, .slice a2 n2 c2, .slice a3 n3 c3]] w fun e w' => e = .returned (.tuple #[.int .i64 (volE S W H), .int .i64 (tabE S W H)]) ∧ Below w.heap.size w w' := by
  have hn1 : n1 = S.length := by obtain ⟨_, _, hv, _⟩ := i1; cases hv; rfl
  have hn2 : n2 = W.length := by obtain ⟨_, _, hv, _⟩ := i2; cases hv; rfl
  have hn3 : n3 = H.length := by obtain ⟨_, _, _, _, hv, _⟩ := i3; cases hv; rfl
  subst hn1; subst hn2; subst hn3
  have hb0 : ∀ o : Obj, Below w.heap.size w (w.alloc o) := fun o => (Below.refl _ _).alloc (Nat.le_refl _) _
  rcases tabE_or S W H with h | h
  · have e : volE S W H = 2 * sideF (gridL S W) H := by unfold volE; rw [if_pos h]
    rw [e, h]
    have hct := fun o => CheckTable_w _ _ _ vs S W H (w.alloc o) (i1.below (hb0 o)) (i2.below (hb0 o)) ((i3.below (hb0 o)).more (by simp))
    rw [h] at hct
    obtain ⟨hS, hW, _⟩ := tab_ok h
    refine (callsIn_wide (n := 10)).1 (Volume_in Fence.wide 10 trivial trivial trivial trivial trivial trivial trivial rfl (by omega) rfl a1 a2 a3 c1 c2 c3 vs S W H w i1 i2 i3 h (hide fun o => callsIn_wide.2 (hct o)) (hide fun w0 hb => callsIn_wide.2 (gridOf_w a1 a2 _ _ c1 c2 S W w0 (i1.below hb) (i2.below hb) hS hW)))
  · have e : volE S W H = 0 := by unfold volE; rw [if_neg (by rw [h]; decide)]
    rw [e, h]
    exact Volume_bad _ _ _ vs S W H w i1 i2 i3 h

def litE (S W : List Int) (H : List (List Int)) : Int := if tabE S W H = 0 then flo (volE S W H) 1296000000 else 0

theorem vol_lim (S W : List Int) (H : List (List Int)) : -8709120000000000000 ≤ volE S W H ∧ volE S W H ≤ 8709120000000000000 := by
  unfold volE; split
  · rename_i h
    have := side_lim h (List.range (gridL S W).length) (by rw [List.length_range, gridL_len]; exact (tab_ok h).1.hi)
    unfold sideF; omega
  · omega

set_option maxHeartbeats 1000000 in
theorem Litres_w (a1 a2 a3 : Option Addr) (n1 n2 n3 c1 c2 c3 : Nat) (vs : List Value) (S W : List Int) (H : List (List Int)) (w : World) (i1 : IsL w (.slice a1 n1 c1) S) (i2 : IsL w (.slice a2 n2 c2) W) (i3 : IsRB w.heap.size w (.slice a3 n3 c3) vs H) :
    Calls Try.prog 58 #[.agg #[.slice a1 n1 c1, .slice a2 n2 c2, .slice a3 n3 c3]] w fun e w' => e = .returned (.tuple #[.int .i64 (litE S W H), .int .i64 (tabE S W H)]) ∧ Below w.heap.size w w' := by
  have hb0 : ∀ o : Obj, Below w.heap.size w (w.alloc o) := fun o => (Below.refl _ _).alloc (Nat.le_refl _) _
  have hv := fun o => Volume_w a1 a2 a3 n1 n2 n3 c1 c2 c3 vs S W H (w.alloc o) (i1.below (hb0 o)) (i2.below (hb0 o)) ((i3.below (hb0 o)).more (by simp))
  have hl := vol_lim S W H
  obtain ⟨hl1, hl2⟩ := hl
  have HE : Hid (litE S W H = if tabE S W H = 0 then flo (volE S W H) 1296000000 else 0) := rfl
  rcases tabE_or S W H with h | h
  · rw [h] at hv ⊢
    have HE2 : Hid (litE S W H = flo (volE S W H) 1296000000) := by show _ = _; rw [HE.out, if_pos h]
    have HV := hide hv; clear hv h HE
    go_enter Try.func58, Try.ntmps58
    go_wp2_with (first | (go_at_call 57; refine (HV.out _).mono ?_; rintro e w1 ⟨rfl, hb1⟩; obtain ⟨hc1, hf1⟩ := bcell hb1; have hz1 := hb1.size; (try simp at hz1); have hs1_0 : w.heap.size < w1.heap.size := (by omega)) | (go_at_call 65; refine (floorDiv_w _ _ _ (by omega) (by omega) (by omega) (by omega)).mono ?_; rintro e w' ⟨rfl, rfl⟩))
    go_ret2
    exact ⟨ret_ii HE2.out.symm rfl, (by repeat (first | exact Below.refl _ _ | assumption | refine Below.alloc ?_ (by first | omega | (simp; omega) | simp) _ | refine Below.setCell ?_ (by first | omega | (simp; omega) | simp) _ | refine below_drewN ?_ _ | refine Below.drew ?_ | refine back ?_ (by assumption)))⟩
  · rw [h] at hv ⊢
    have HE2 : Hid (litE S W H = 0) := by show _ = _; rw [HE.out, if_neg (by rw [h]; decide)]
    have HV := hide hv; clear hv h HE
    go_enter Try.func58, Try.ntmps58
    go_wp2_with (go_at_call 57; refine (HV.out _).mono ?_; rintro e w1 ⟨rfl, hb1⟩; obtain ⟨hc1, hf1⟩ := bcell hb1; have hz1 := hb1.size; (try simp at hz1); have hs1_0 : w.heap.size < w1.heap.size := (by omega))
    go_ret2
    exact ⟨ret_ii HE2.out.symm rfl, (by repeat (first | exact Below.refl _ _ | assumption | refine Below.alloc ?_ (by first | omega | (simp; omega) | simp) _ | refine Below.setCell ?_ (by first | omega | (simp; omega) | simp) _ | refine below_drewN ?_ _ | refine Below.drew ?_ | refine back ?_ (by assumption)))⟩
end Go.Proofs.Ytlpoenoijmifdaa
