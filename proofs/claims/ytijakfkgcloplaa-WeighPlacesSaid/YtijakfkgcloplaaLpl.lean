import Derived.Test.YtijakfkgcloplaaSan
set_option linter.unusedVariables false
set_option linter.unusedSimpArgs false
namespace Go.Proofs.Ytijakfkgcloplaa
open Go.RowKit Go.Shelf

theorem IsGB.below {B : Nat} {w w' : World} {v : Value} {gs : List (Nat × Nat)} (h : IsGB B w v gs) (hb : Below B w w') : IsGB B w' v gs := h.keep fun _ hp => hb.cell hp

theorem gAt_bd (xs : List Int) (i : Nat) : (gAt (grsE xs) i).1 ≤ 1000 := by
  unfold grsE
  split
  · rename_i h
    have hp := Pos.of h
    unfold gAt
    by_cases hi : i < (grs xs).length
    · rw [List.getElem?_eq_getElem hi]
      have := grF_bd xs xs.length 0 _ (List.getElem_mem hi)
      have h9 := hp.hi
      simp only [Option.getD_some]
      omega
    · rw [List.getElem?_eq_none (by omega)]; simp
  · unfold gAt; simp

set_option maxRecDepth 100000 in
set_option maxHeartbeats 4000000 in
theorem lawPlaces_w (a : Option Addr) (n cap : Nat) (xs : List Int) (w : World) (h : IsL w (.slice a n cap) xs) :
    Calls Try.prog 5 #[.slice a n cap] w fun e w' => e = .returned (.bool true) ∧ Below w.heap.size w w' := by
  have HH := hide h; clear h
  have hmix : (Try.prog).follows .mixedOrders = true := by kernel_rfl
  go_enter Try.func5, Try.ntmps5
  go_wp2_with fail
  refine (Groups_w a n cap xs w HH.out).mono ?_
  rintro e w1 ⟨v1, rfl, h1, hb1⟩
  go_wp2_with fail
  refine (rGroups_w a n cap xs w1 (HH.out.below hb1)).mono ?_
  rintro e w2 ⟨v2, rfl, h2, hb2⟩
  have hB2 : Below w.heap.size w w2 := back hb1 hb2
  have h1' := h1.below hb2
  go_wp2_with fail
  refine (Weights_w a n cap xs w2 (HH.out.below hB2)).mono ?_
  rintro e w3 ⟨v3, rfl, h3, _, hb3⟩
  have hB3 : Below w.heap.size w w3 := back hB2 hb3
  have h1'' := h1'.below (hb3.mono hb2.size)
  have h2' := h2.below hb3
  go_wp2_with fail
  refine (rWeights_w a n cap xs w3 (HH.out.below hB3)).mono ?_
  rintro e w4 ⟨v4, rfl, h4, _, hb4⟩
  have hB4 : Below w.heap.size w w4 := back hB3 hb4
  have g1 := h1''.below (hb4.mono (Nat.le_trans hb2.size hb3.size))
  have g2 := h2'.below (hb4.mono hb3.size)
  have g3 := IsL.below h3 hb4
  have G1 := hide g1; have G2 := hide g2; have G3 := hide g3; have G4 := hide h4
  clear h1 h1' h1'' h2 h2' h3 h4 g1 g2 g3
  obtain ⟨a3, c3, rfl, _⟩ := id G3.out
  obtain ⟨a4, c4, rfl, _⟩ := id G4.out
  obtain ⟨a1, c1, rfl, _⟩ := id G1.out
  obtain ⟨a2, c2, rfl, _⟩ := id G2.out
  go_wp2_with fail
  have hsg := sameGroups_w _ _ _ _ 0 w4 _ _ G1.out G2.out (by omega) (by omega) (gAt_bd xs)
  rw [sameG_refl] at hsg
  refine hsg.mono ?_
  rintro e w' ⟨rfl, k1, rfl⟩
  clear hsg
  go_wp2_with fail
  refine (sameInts_w _ _ (wtsE xs) _ (G3.out.drewN _) (G4.out.drewN _)).mono ?_
  rintro e w' ⟨rfl, k2, rfl⟩
  go_wp2_with fail
  refine (places_w a n cap xs _ (IsL.drewN (HH.out.below hB4) _)).mono ?_
  rintro e w' ⟨rfl, k3, rfl⟩
  go_wp2_with fail
  refine (rplaces_w a n cap xs _ (IsL.drewN (HH.out.below hB4) _)).mono ?_
  rintro e w' ⟨rfl, k4, rfl⟩
  go_wp2_with (go_at_call 32; refine (sane_w _).mono ?_; rintro e w5 ⟨rfl, hb5⟩)
  go_ret
  exact ⟨rfl, (below_drewN hB4 _).trans (hb5.mono hB4.size)⟩
end Go.Proofs.Ytijakfkgcloplaa
