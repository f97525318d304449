import Derived.Test.YtijakfkgcloplaaArm
import Derived.Test.YtijakfkgcloplaaSan
set_option linter.unusedVariables false
set_option linter.unusedSimpArgs false
namespace Go.Proofs.Ytijakfkgcloplaa
open Go.RowKit

set_option maxRecDepth 100000 in
set_option maxHeartbeats 4000000 in
theorem lawAreas_w (a1 a2 : Option Addr) (n1 n2 c1 c2 : Nat) (xs ys : List Int) (about : Int) (w : World) (i1 : IsL w (.slice a1 n1 c1) xs) (i2 : IsL w (.slice a2 n2 c2) ys) (hf : FB about) :
    Calls Try.prog 6 #[.slice a1 n1 c1, .slice a2 n2 c2, .int .i64 about] w fun e w' => e = .returned (.bool true) ∧ Below w.heap.size w w' := by
  obtain ⟨⟨p, q, r⟩, hc⟩ : ∃ t, cenF xs ys = t := ⟨_, rfl⟩
  obtain ⟨A, hA⟩ : ∃ t, areaV xs ys = t := ⟨_, rfl⟩
  obtain ⟨E, hE⟩ : ∃ t, ordE xs ys = t := ⟨_, rfl⟩
  obtain ⟨M, hM⟩ : ∃ t, momV xs ys about = t := ⟨_, rfl⟩
  obtain ⟨F, hF⟩ : ∃ t, momE xs ys about = t := ⟨_, rfl⟩
  have h1 := fun (w' : World) (hb : Below w.heap.size w w') => Area_w a1 a2 n1 n2 c1 c2 xs ys w' (i1.below hb) (i2.below hb)
  have h2 := fun (w' : World) (hb : Below w.heap.size w w') => rArea_w a1 a2 n1 n2 c1 c2 xs ys w' (i1.below hb) (i2.below hb)
  have h3 := fun (w' : World) (hb : Below w.heap.size w w') => Moment_w a1 a2 n1 n2 c1 c2 xs ys about w' (i1.below hb) (i2.below hb) hf
  have h4 := fun (w' : World) (hb : Below w.heap.size w w') => rMoment_w a1 a2 n1 n2 c1 c2 xs ys about w' (i1.below hb) (i2.below hb) hf
  have h5 := fun (w' : World) (hb : Below w.heap.size w w') => Centre_w xs ys (hide hc) a1 a2 n1 n2 c1 c2 w' (i1.below hb) (i2.below hb)
  have h6 := fun (w' : World) (hb : Below w.heap.size w w') => rCentre_w xs ys (hide hc) a1 a2 n1 n2 c1 c2 w' (i1.below hb) (i2.below hb)
  rw [hA, hE] at h1 h2
  rw [hM, hF] at h3 h4
  have H1 := hide h1; have H2 := hide h2; have H3 := hide h3; have H4 := hide h4; have H5 := hide h5; have H6 := hide h6
  clear h1 h2 h3 h4 h5 h6 hA hE hM hF hc i1 i2
  have hmix : (Try.prog).follows .mixedOrders = true := by kernel_rfl
  go_enter Try.func6, Try.ntmps6
  go_wp2_with fail
  refine (H1.out _ (by repeat (first | exact Below.refl _ _ | assumption | refine Below.alloc ?_ (by first | omega | (simp; omega) | simp) _ | refine Below.setCell ?_ (by first | omega | (simp; omega) | simp) _ | refine below_drewN ?_ _ | refine Below.drew ?_ | refine back ?_ (by assumption)))).mono ?_
  rintro e w1 ⟨rfl, hb1⟩; obtain ⟨hc1, hf1⟩ := bcell hb1; have hz1 := hb1.size; (try simp at hz1)
  have k1 : Below w.heap.size w w1 := (by repeat (first | exact Below.refl _ _ | assumption | refine Below.alloc ?_ (by first | omega | (simp; omega) | simp) _ | refine Below.setCell ?_ (by first | omega | (simp; omega) | simp) _ | refine below_drewN ?_ _ | refine Below.drew ?_ | refine back ?_ (by assumption)))
  go_wp2_with fail
  refine (H2.out _ k1).mono ?_
  rintro e w2 ⟨rfl, hb2⟩; obtain ⟨hc2, hf2⟩ := bcell hb2; have hz2 := hb2.size; (try simp at hz2)
  have k2 : Below w.heap.size w w2 := back k1 hb2
  go_wp2_with fail
  refine (H3.out _ k2).mono ?_
  rintro e w3 ⟨rfl, hb3⟩; obtain ⟨hc3, hf3⟩ := bcell hb3; have hz3 := hb3.size; (try simp at hz3)
  have k3 : Below w.heap.size w w3 := back k2 hb3
  go_wp2_with fail
  refine (H4.out _ k3).mono ?_
  rintro e w4 ⟨rfl, hb4⟩; obtain ⟨hc4, hf4⟩ := bcell hb4; have hz4 := hb4.size; (try simp at hz4)
  have k4 : Below w.heap.size w w4 := back k3 hb4
  go_wp2_with fail
  refine (H5.out _ k4).mono ?_
  rintro e w5 ⟨rfl, hb5⟩; obtain ⟨hc5, hf5⟩ := bcell hb5; have hz5 := hb5.size; (try simp at hz5)
  have k5 : Below w.heap.size w w5 := back k4 hb5
  go_wp2_with fail
  refine (H6.out _ (by repeat (first | exact Below.refl _ _ | assumption | refine Below.alloc ?_ (by first | omega | (simp; omega) | simp) _ | refine Below.setCell ?_ (by first | omega | (simp; omega) | simp) _ | refine below_drewN ?_ _ | refine Below.drew ?_ | refine back ?_ (by assumption)))).mono ?_
  rintro e w6 ⟨rfl, hb6⟩; obtain ⟨hc6, hf6⟩ := bcell hb6; have hz6 := hb6.size; (try simp at hz6); have hs6_0 : w5.heap.size < w6.heap.size := (by omega)
  have k6 : Below w.heap.size w w6 := (by repeat (first | exact Below.refl _ _ | assumption | refine Below.alloc ?_ (by first | omega | (simp; omega) | simp) _ | refine Below.setCell ?_ (by first | omega | (simp; omega) | simp) _ | refine below_drewN ?_ _ | refine Below.drew ?_ | refine back ?_ (by assumption)))
  go_wp2_with (go_at_call 32; refine (sane_w _).mono ?_; rintro e w7 ⟨rfl, hb7⟩)
  go_ret
  exact ⟨rfl, back (by repeat (first | exact Below.refl _ _ | assumption | refine Below.alloc ?_ (by first | omega | (simp; omega) | simp) _ | refine Below.setCell ?_ (by first | omega | (simp; omega) | simp) _ | refine below_drewN ?_ _ | refine Below.drew ?_ | refine back ?_ (by assumption))) hb7⟩
end Go.Proofs.Ytijakfkgcloplaa
