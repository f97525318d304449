import Derived.Test.YtlpoenoijmifdaaAgr
import Derived.Test.YtlpoenoijmifdaaLsc
import Derived.Deep.RegionHeld3
import Derived.IntWalk
set_option linter.unusedVariables false
set_option linter.unusedSimpArgs false
namespace Go.Proofs.Ytlpoenoijmifdaa
open Go.RowKit

/-- The error of a place to part positions at. -/
def prtE (xs : List Int) (a : Int) : Int := if rise 9 100000 xs = true then (if 1 ≤ a ∧ a ≤ (xs.length : Int) - 2 ∧ agB xs a.toNat = true then 0 else 14) else 12
/-- Both parts; empty with an error. -/
def prtA (xs : List Int) (a : Int) : List Int := if prtE xs a = 0 then xs.take (a.toNat + 1) else []
def prtB (xs : List Int) (a : Int) : List Int := if prtE xs a = 0 then xs.drop a.toNat else []

/-- What a parting returns. -/
def Parts (w w' : World) (xs : List Int) (a : Int) (e : Ending) : Prop :=
  ∃ v1 v2, e = .returned (.tuple #[v1, v2, .int .i64 (prtE xs a)]) ∧ IsL w' v1 (prtA xs a) ∧ IsL w' v2 (prtB xs a) ∧ Below w.heap.size w w'

theorem parts_err {w w' : World} {xs : List Int} {a : Int} {c : Int} (h : prtE xs a = c) (hc : c ≠ 0) (hb : Below w.heap.size w w') : Parts w w' xs a (.returned (.tuple #[.slice none 0 0, .slice none 0 0, .int .i64 c])) := by
  refine ⟨_, _, by rw [h], ?_, ?_, hb⟩
  · unfold prtA; rw [h, if_neg hc]; exact IsLB.nil _ _
  · unfold prtB; rw [h, if_neg hc]; exact IsLB.nil _ _

set_option maxRecDepth 100000 in
set_option maxHeartbeats 4000000 in
theorem Part_w (a0 : Option Addr) (n cap : Nat) (xs : List Int) (at' : Int) (w : World) (h : IsL w (.slice a0 n cap) xs) (hf : FB at') :
    Calls Try.prog 47 #[.slice a0 n cap, .int .i64 at'] w fun e w' => Parts w w' xs at' e := by
  have hw := places_w a0 n cap xs w h
  by_cases hr : rise 9 100000 xs = true
  · have e1 : pl xs = 0 := by unfold pl; rw [hr]; rfl
    rw [e1] at hw
    have hp := Pos.of hr
    have h2 := hp.lo
    have h9 := hp.hi
    have hc : n = xs.length ∧ xs.length ≤ cap ∧ cap ≤ maxLen ∧ ∃ b off, a0 = some ⟨b, off, none⟩ := by
      obtain ⟨_, _, hv, h1, h2, _, h4⟩ := id h
      obtain ⟨rfl, rfl, rfl⟩ := Value.slice.inj hv
      obtain ⟨b, off, e, _⟩ := h4 (by intro h; have := hp.lo; rw [h] at this; simp at this)
      exact ⟨rfl, h1, h2, b, off, e⟩
    obtain ⟨rfl, hc1, hc2, b, off, rfl⟩ := hc
    unfold maxLen at hc2
    have HW := hide hw; have HR := hide hr; have HP := hide hp; have HH := hide h
    clear hw hr hp h e1
    by_cases h1 : at' < 1
    · have hE : prtE xs at' = 14 := by unfold prtE; rw [if_pos HR.out, if_neg (by omega)]
      have HE := hide hE; clear hE
      go_enter Try.func47, Try.ntmps47
      go_wp2_with (go_at_call 39; refine HW.out.mono ?_; rintro e w' ⟨rfl, k, rfl⟩)
      go_ret3
      exact parts_err HE.out (by decide) (below_drewN (Below.refl _ _) _)
    by_cases h3 : (xs.length : Int) - 2 < at'
    · have hE : prtE xs at' = 14 := by unfold prtE; rw [if_pos HR.out, if_neg (by omega)]
      have HE := hide hE; clear hE
      go_enter Try.func47, Try.ntmps47
      go_wp2_with (go_at_call 39; refine HW.out.mono ?_; rintro e w' ⟨rfl, k, rfl⟩)
      go_ret3
      exact parts_err HE.out (by decide) (below_drewN (Below.refl _ _) _)
    · obtain ⟨a, rfl⟩ : ∃ a : Nat, at' = (a : Int) := ⟨at'.toNat, by omega⟩
      have ha1 : 1 ≤ a := by omega
      have ha2 : a + 2 ≤ xs.length := by omega
      have pf : Pos (xs.take (a + 1)) := HP.out.take (by omega) (by omega)
      have pb : Pos (xs.drop a) := HP.out.drop ha2
      have lf : (xs.take (a + 1)).length = a + 1 := by rw [List.length_take]; omega
      have lb : (xs.drop a).length = xs.length - a := List.length_drop
      have C1 : ∀ X : World, Below w.heap.size w X → Calls Try.prog 77 #[.slice (some ⟨b, off, none⟩) (a + 1) cap] X fun e w' => ∃ v, e = .returned v ∧ Own X.heap.size w' v (xs.take (a + 1)) ∧ Below X.heap.size X w' := fun X hX =>
        clone_w b off (a + 1) cap _ X (IsLB.front (HH.out.below hX) (by omega) (by omega)) (by omega) (by omega)
      have C2 : ∀ X : World, Below w.heap.size w X → Calls Try.prog 77 #[.slice (some ⟨b, off + a, none⟩) (xs.length - a) (cap - a)] X fun e w' => ∃ v, e = .returned v ∧ Own X.heap.size w' v (xs.drop a) ∧ Below X.heap.size X w' := fun X hX =>
        clone_w b (off + a) (xs.length - a) (cap - a) _ X (IsLB.back' (HH.out.below hX) (by omega)) (by omega) (by omega)
      have HC1 := hide C1; have HC2 := hide C2
      have HLF := hide lf; have HLB := hide lb; have HPF := hide pf; have HPB := hide pb
      have e1 : ((a : Int) + 1).toNat = a + 1 := by omega
      have e2 : a + 1 ≤ cap := by omega
      have e3 : a < cap := by omega
      have e4 : a < xs.length := by omega
      have e5 : a ≤ xs.length := by omega
      have e6 : a + 1 ≤ xs.length := by omega
      have hwr : IntKind.i64.wrap ((a : Int) + 1) = (a : Int) + 1 := IntWalk.i64_in _ (by omega)
      have e7 : (0 : Int) ≤ (a : Int) + 1 := by omega
      have e8 : (a : Int) + 1 ≤ cap := by omega
      have e9 : (a : Int) ≤ xs.length := by omega
      have e10 : ¬ (cap : Int) < (a : Int) + 1 := by omega
      have e11 : -1 ≤ (a : Int) := by omega
      clear C1 C2 lf lb pf pb
      go_enter Try.func47, Try.ntmps47
      go_wp2_with (go_at_call 39; refine HW.out.mono ?_; rintro e w' ⟨rfl, k, rfl⟩)
      have hB0 := hide (below_drewN (Below.refl w.heap.size w) k)
      obtain ⟨wk, hwk⟩ : ∃ wk, w.drewN k = wk := ⟨_, rfl⟩
      rw [hwk] at hB0 ⊢
      clear hwk
      go_region_held3 (fun X => Below w.heap.size w X) (first | exact hB0.out | exact below_drewN hB0.out 1 | exact back (by assumption) hb2 | exact back (by assumption) hb1 | exact back (below_drewN hB0.out 1) hb1 | assumption)
        (first
          | (go_at_call 77; refine (HC1.out _ (by first | assumption | exact hB0.out | exact below_drewN hB0.out 1)).mono ?_; rintro e w' ⟨v1, rfl, ho1, hb1⟩; obtain ⟨g1, k1, rfl, _, _, _⟩ := ho1.form HLF.out (by omega))
          | (go_at_call 77; refine (HC2.out _ (by first | assumption | exact hB0.out | exact below_drewN hB0.out 1)).mono ?_; rintro e w' ⟨v2, rfl, ho2, hb2⟩; obtain ⟨g2, k2, rfl, _, _, _⟩ := ho2.form HLB.out (by omega)))
      have hB1 := hide (below_drewN hB0.out 1)
      have hl1 := ho1.isL (pos_FB HPF.out)
      have hl2 := ho2.isL (pos_FB HPB.out)
      have HL1 := hide (IsL.below hl1 hb2); have HL2 := hide hl2
      have hbw1 := back hB1.out hb1
      have HBW := hide (back hbw1 hb2)
      clear hl1 hl2 hbw1 ho1 ho2 hb1 hb2 hB0 hB1 hwr
      have D := divides_w _ _ _ _ _ _ _ _ _ (xs.take (a + 1)) (xs.drop a) xs _ HL1.out HL2.out (HH.out.below HBW.out) HPF.out HPB.out HP.out
      rw [← agB_eq xs a HLF.out] at D
      have HD := hide D
      clear D
      cases hg : agB xs a with
      | true =>
        rw [hg] at HD
        have hE : prtE xs (a : Int) = 0 := by unfold prtE; rw [if_pos HR.out, if_pos ⟨by omega, by omega, by rw [Int.toNat_natCast]; exact hg⟩]
        have HE := hide hE; clear hE hg
        go_wp2_with (go_at_call 78; refine HD.out.mono ?_; rintro e w9 ⟨rfl, hb9⟩)
        go_ret3
        refine ⟨.slice (some ⟨g1, 0, none⟩) (a + 1) k1, .slice (some ⟨g2, 0, none⟩) (xs.length - a) k2, by rw [HE.out]; rfl, ?_, ?_, back HBW.out hb9⟩
        · unfold prtA; rw [HE.out, if_pos rfl, Int.toNat_natCast]
          exact HL1.out.below hb9
        · unfold prtB; rw [HE.out, if_pos rfl, Int.toNat_natCast]
          exact HL2.out.below hb9
      | false =>
        rw [hg] at HD
        have hE : prtE xs (a : Int) = 14 := by unfold prtE; rw [if_pos HR.out, if_neg (by rintro ⟨_, _, h⟩; rw [Int.toNat_natCast, hg] at h; cases h)]
        have HE := hide hE; clear hE hg
        go_wp2_with (go_at_call 78; refine HD.out.mono ?_; rintro e w9 ⟨rfl, hb9⟩)
        go_ret3
        exact parts_err HE.out (by decide) (back HBW.out hb9)
  · have hr' : rise 9 100000 xs = false := by simpa using hr
    have e1 : pl xs = 12 := by unfold pl; rw [hr']; rfl
    have hE : prtE xs at' = 12 := by unfold prtE; rw [if_neg hr]
    rw [e1] at hw
    have HW := hide hw; have HE := hide hE
    clear hw hE hr hr' e1 h
    go_enter Try.func47, Try.ntmps47
    go_wp2_with (go_at_call 39; refine HW.out.mono ?_; rintro e w' ⟨rfl, k, rfl⟩)
    go_ret3
    exact parts_err HE.out (by decide) (below_drewN (Below.refl _ _) _)
end Go.Proofs.Ytlpoenoijmifdaa
