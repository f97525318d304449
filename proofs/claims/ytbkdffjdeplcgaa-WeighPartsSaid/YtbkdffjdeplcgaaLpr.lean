import Derived.Test.YtbkdffjdeplcgaaRpt
import Derived.Test.YtbkdffjdeplcgaaRjo
set_option linter.unusedVariables false
set_option linter.unusedSimpArgs false
namespace Go.Proofs.Ytbkdffjdeplcgaa
open Go.RowKit Go.Shelf

set_option maxRecDepth 100000 in
set_option maxHeartbeats 4000000 in
theorem lawParts_w (w : World) (a1 : Option Addr) (n1 c1 : Nat) (xs : List Int) (i1 : IsL w (.slice a1 n1 c1) xs) (_ : xs.length ≤ 1000000000000000000) (a2 : Option Addr) (n2 c2 : Nat) (ys : List Int) (i2 : IsL w (.slice a2 n2 c2) ys) (_ : ys.length ≤ 1000000000000000000) (at' : Int) (hf : FB at') :
    Calls Try.prog 7 #[.slice a1 n1 c1, .slice a2 n2 c2, .int .i64 at'] w fun e w' => e = .returned (.bool true) ∧ Below w.heap.size w w' := by
  have H1 := hide i1; have H2 := hide i2; have HF := hide hf; clear i1 i2 hf
  obtain ⟨z1, hz1⟩ : ∃ z, prtE xs at' = z := ⟨_, rfl⟩
  obtain ⟨z2, hz2⟩ : ∃ z, joiE xs ys = z := ⟨_, rfl⟩
  have HZ1 := hide hz1; have HZ2 := hide hz2; clear hz1 hz2
  go_enter Try.func7, Try.ntmps7
  go_wp2_with fail
  refine (Part_w a1 n1 c1 xs at' w H1.out HF.out).mono ?_
  rintro e w1 ⟨va, vb, rfl, ha, hb, hb1⟩
  rw [HZ1.out]
  have HA := hide ha; have HB := hide hb; have B1 := hide hb1
  clear ha hb hb1
  go_wp2_with fail
  refine (rPart_w a1 n1 c1 xs at' w1 (H1.out.below B1.out) HF.out).mono ?_
  rintro e w2 ⟨vc, vd, rfl, hc, hd, hb2⟩
  rw [HZ1.out]
  have HA2 := hide (IsL.below HA.out hb2); have HB2 := hide (IsL.below HB.out hb2); have HC := hide hc; have HD := hide hd; have B2 := hide (back B1.out hb2)
  clear hc hd hb2 HA HB
  go_wp2_with fail
  refine (Join_w a1 a2 n1 n2 c1 c2 xs ys w2 (H1.out.below B2.out) (H2.out.below B2.out)).mono ?_
  rintro e w3 ⟨vg, rfl, hg, hb3⟩
  rw [HZ2.out]
  have HA3 := hide (IsL.below HA2.out hb3); have HB3 := hide (IsL.below HB2.out hb3); have HC3 := hide (IsL.below HC.out hb3); have HD3 := hide (IsL.below HD.out hb3); have HG := hide hg; have B3 := hide (back B2.out hb3)
  clear hg hb3 HA2 HB2 HC HD
  go_wp2_with fail
  refine (rJoin_w a1 a2 n1 n2 c1 c2 xs ys w3 (H1.out.below B3.out) (H2.out.below B3.out)).mono ?_
  rintro e w4 ⟨vh, rfl, hh, hb4⟩
  rw [HZ2.out]
  have HA4 := hide (IsL.below HA3.out hb4); have HB4 := hide (IsL.below HB3.out hb4); have HC4 := hide (IsL.below HC3.out hb4); have HD4 := hide (IsL.below HD3.out hb4); have HG4 := hide (IsL.below HG.out hb4); have HH := hide hh; have B4 := hide (back B3.out hb4)
  clear hh hb4 HA3 HB3 HC3 HD3 HG
  obtain ⟨a3, c3, rfl, _⟩ := id HA4.out
  obtain ⟨a4, c4, rfl, _⟩ := id HB4.out
  obtain ⟨a5, c5, rfl, _⟩ := id HC4.out
  obtain ⟨a6, c6, rfl, _⟩ := id HD4.out
  obtain ⟨a7, c7, rfl, _⟩ := id HG4.out
  obtain ⟨a8, c8, rfl, _⟩ := id HH.out
  have e1 : (z1 == z1) = true := by simp
  have e2 : (z2 == z2) = true := by simp
  go_wp2_with fail
  refine (sameInts_w _ _ (prtA xs at') _ HA4.out HC4.out).mono ?_
  rintro e w' ⟨rfl, k1, rfl⟩
  go_wp2_with fail
  refine (sameInts_w _ _ (prtB xs at') _ (HB4.out.drewN _) (HD4.out.drewN _)).mono ?_
  rintro e w' ⟨rfl, k2, rfl⟩
  go_wp2_with fail
  refine (sameInts_w _ _ (joiL xs ys) _ (IsL.drewN HG4.out _) (IsL.drewN HH.out _)).mono ?_
  rintro e w' ⟨rfl, k3, rfl⟩
  go_wp2_with (go_at_call 32; refine (sane_w _).mono ?_; rintro e w5 ⟨rfl, hb5⟩)
  go_ret
  exact ⟨rfl, (below_drewN B4.out _).trans (hb5.mono B4.out.size)⟩
end Go.Proofs.Ytbkdffjdeplcgaa
