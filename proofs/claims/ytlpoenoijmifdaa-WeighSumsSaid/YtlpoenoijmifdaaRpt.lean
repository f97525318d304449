import Derived.Test.YtlpoenoijmifdaaPrt
import Derived.Deep.RegionLawGrows
set_option linter.unusedVariables false
set_option linter.unusedSimpArgs false
namespace Go.Proofs.Ytlpoenoijmifdaa
open Go.RowKit

theorem step_copy {ops : Array Oper} {o : Oper} {a : Act} {w : World} {K : Act → World → Prop} {Q : Exit → Act → World → Prop} {E : Prop} (hgd : o.guard = none) (s x : Operand)
    (ho : o.op = .call { callee := .builtin .append, args := #[s, x], argTypes := #[38, 38] })
    (d : Addr) (ys : List Int) (b off m c : Nat) (hs : a.eval s = .slice (some d) 0 0) (hx : a.eval x = .slice (some ⟨b, off, none⟩) m c) (hi : IsL w (.slice (some ⟨b, off, none⟩) m c) ys) (h0 : 0 < m) (hl : m ≤ 1000000)
    (h : ∀ v' w', Own w.heap.size w' v' ys → Below w.heap.size w w' → K (a.put o.dst v') w') :
    if Region.wanted o (yielded ops a.tmps) = true then Oper.wp Try.prog o a w K Q else E := by
  obtain ⟨i0, hi0, hz0, hz1, hz2⟩ := info_parts infoI'
  obtain ⟨_, _, hv, _, _, _, h4⟩ := hi
  obtain ⟨rfl, rfl, rfl⟩ := Value.slice.inj hv
  obtain ⟨_, _, e, hbl, hc⟩ := h4 (by intro h; rw [h] at h0; simp at h0)
  cases e
  refine step_append_grows hgd s x 38 ho 3 i0 _ 1 8 Try.underlying38 hi0 hz0 hz1 hz2 rfl (by decide) (some d) 0 0 [] hs (by simp) rfl (by simp) ⟨b, off, none⟩ ys.length c (ys.map (Value.int .i64)) hx (by simp) ?_ ?_ (by omega) (by simp only [maxLen]; omega) (by omega) ?_
  · intro j u hj
    rw [List.getElem?_map] at hj
    by_cases hjl : j < ys.length
    · rw [List.getElem?_eq_getElem hjl] at hj
      simp only [Option.map_some, Option.some.injEq] at hj
      subst hj
      have := hc j hjl
      rw [List.getElem?_eq_getElem hjl] at this
      simp only [Option.getD_some] at this
      by_cases h0 : j = 0
      · subst h0; simpa [Addr.add] using this
      · simpa [Addr.add, h0] using this
    · rw [List.getElem?_eq_none (by omega)] at hj; simp at hj
  · intro u hu
    obtain ⟨z, _, rfl⟩ := List.mem_map.1 hu
    rfl
  · intro v' w' h1 h2
    refine h v' w' ?_ ⟨h2.os, h2.tape, h2.output, h2.size, fun k hk => h2.block k hk (by simp)⟩
    unfold Own
    simpa using h1

set_option maxRecDepth 100000 in
set_option maxHeartbeats 4000000 in
theorem rPart_w (a0 : Option Addr) (n cap : Nat) (xs : List Int) (at' : Int) (w : World) (h : IsL w (.slice a0 n cap) xs) (hf : FB at') :
    Calls Try.prog 48 #[.slice a0 n cap, .int .i64 at'] w fun e w' => Parts w w' xs at' e := by
  have hw := rplaces_w a0 n cap xs w h
  by_cases hr : rise 9 100000 xs = true
  · have e1 : pl xs = 0 := by unfold pl; rw [hr]; rfl
    rw [e1] at hw
    have hp := Pos.of hr
    have h2 := hp.lo
    have h9 := hp.hi
    have hc : n = xs.length ∧ xs.length ≤ cap ∧ cap ≤ maxLen ∧ ∃ b off, a0 = some ⟨b, off, none⟩ := by
      obtain ⟨_, _, hv, h1, h2, _, h4⟩ := id h
      obtain ⟨rfl, rfl, rfl⟩ := Value.slice.inj hv
      obtain ⟨b, off, e, _⟩ := h4 (by intro h; have := hp.lo; rw [h] at this; simp at this)
      exact ⟨rfl, h1, h2, b, off, e⟩
    obtain ⟨rfl, hc1, hc2, b, off, rfl⟩ := hc
    unfold maxLen at hc2
    have HW := hide hw; have HR := hide hr; have HP := hide hp; have HH := hide h
    clear hw hr hp h e1
    by_cases h1 : at' < 1
    · have hE : prtE xs at' = 14 := by unfold prtE; rw [if_pos HR.out, if_neg (by omega)]
      have HE := hide hE; clear hE
      go_enter Try.func48, Try.ntmps48
      go_wp2_with (go_at_call 40; refine HW.out.mono ?_; rintro e w' ⟨rfl, k, rfl⟩)
      go_ret3
      exact parts_err HE.out (by decide) (below_drewN (Below.refl _ _) _)
    by_cases h3 : (xs.length : Int) - 2 < at'
    · have hE : prtE xs at' = 14 := by unfold prtE; rw [if_pos HR.out, if_neg (by omega)]
      have HE := hide hE; clear hE
      have h3' : (xs.length : Int) - 1 ≤ at' := by omega
      go_enter Try.func48, Try.ntmps48
      go_wp2_with (go_at_call 40; refine HW.out.mono ?_; rintro e w' ⟨rfl, k, rfl⟩)
      go_ret3
      exact parts_err HE.out (by decide) (below_drewN (Below.refl _ _) _)
    · obtain ⟨a, rfl⟩ : ∃ a : Nat, at' = (a : Int) := ⟨at'.toNat, by omega⟩
      have ha1 : 1 ≤ a := by omega
      have ha2 : a + 2 ≤ xs.length := by omega
      have h3' : ¬ (xs.length : Int) - 1 ≤ (a : Int) := by omega
      have C := fun (k : Nat) => agree_w b off xs.length cap xs a (w.drewN k) (HH.out.drewN k) HP.out ha1 ha2
      have HC := hide C
      clear C
      cases hg : agB xs a with
      | true =>
        rw [hg] at HC
        have pf : Pos (xs.take (a + 1)) := HP.out.take (by omega) (by omega)
        have pb : Pos (xs.drop a) := HP.out.drop ha2
        have lf : (xs.take (a + 1)).length = a + 1 := by rw [List.length_take]; omega
        have lb : (xs.drop a).length = xs.length - a := List.length_drop
        have hE : prtE xs (a : Int) = 0 := by unfold prtE; rw [if_pos HR.out, if_pos ⟨by omega, by omega, by rw [Int.toNat_natCast]; exact hg⟩]
        have HE := hide hE
        have HLF := hide lf; have HLB := hide lb; have HPF := hide pf; have HPB := hide pb
        have e1 : ((a : Int) + 1).toNat = a + 1 := by omega
        have e2 : a + 1 ≤ cap := by omega
        have e3 : a < cap := by omega
        have e4 : a < xs.length := by omega
        have e5 : a ≤ xs.length := by omega
        have e6 : a + 1 ≤ xs.length := by omega
        have e7 : (0 : Int) ≤ (a : Int) + 1 := by omega
        have e8 : (a : Int) + 1 ≤ cap := by omega
        have e9 : (a : Int) ≤ xs.length := by omega
        have e10 : ¬ (cap : Int) < (a : Int) + 1 := by omega
        have e11 : -1 ≤ (a : Int) := by omega
        have e12 : ¬ cap = a := by omega
        have e13 : cap ≠ a := by omega
        have hwr : IntKind.i64.wrap ((a : Int) + 1) = (a : Int) + 1 := IntWalk.i64_in _ (by omega)
        clear lf lb pf pb hE hg
        go_enter Try.func48, Try.ntmps48
        go_wp2_with (first
          | (go_at_call 40; refine HW.out.mono ?_; rintro e w' ⟨rfl, k, rfl⟩)
          | (go_at_call 79; refine (HC.out _).mono ?_; rintro e w1 ⟨rfl, hb1⟩))
        have hB0 := back (below_drewN (Below.refl w.heap.size w) k) hb1
        have hz0 := hB0.size
        clear hb1
        go_region_held3 (fun X => Below w.heap.size w X) (repeat (first | exact hB0 | assumption | refine Below.alloc ?_ (by first | omega | (simp; omega)) _ | refine Below.drew ?_ | refine back ?_ (by assumption)))
          (first
            | (refine step_copy (o := ⟨some 30, _, _, _, _, _⟩) (by rfl) (.tmp 25) (.tmp 29) (by rfl) _ (xs.take (a + 1)) b off (a + 1) cap (by rfl) (by rfl) (IsLB.front (HH.out.below (by first | assumption | exact hB0)) (by omega) (by omega)) (by omega) (by omega) ?_; intro v2 w2 ho2 hb2; have hz2 := hb2.size; (try simp at hz2))
            | (refine step_copy (o := ⟨some 35, _, _, _, _, _⟩) (by rfl) (.tmp 31) (.tmp 34) (by rfl) _ (xs.drop a) b (off + a) (xs.length - a) (cap - a) (by rfl) (by rfl) (IsLB.back' (HH.out.below (by first | assumption | exact hB0)) (by omega)) (by omega) (by omega) ?_; intro v3 w3 ho3 hb3; have hz3 := hb3.size; (try simp at hz3)))
        all_goals
          have hl1 := ho2.isL (pos_FB HPF.out)
          have hl2 := ho3.isL (pos_FB HPB.out)
          have hbf : Below w2.heap.size w2 w3 := by first | exact hb3 | exact ((Below.refl w2.heap.size w2).alloc (Nat.le_refl _) _).trans (hb3.mono (by simp))
          have HL1 := hide (IsL.below hl1 hbf); have HL2 := hide hl2
          have hbw : Below w.heap.size w w3 := by first | assumption | exact keep
          have HBW := hide hbw
          obtain ⟨g1, k1, rfl, _, _, _⟩ := ho2.form HLF.out (by omega)
          obtain ⟨g2, k2, rfl, _, _, _⟩ := ho3.form HLB.out (by omega)
          clear hl1 hl2 hbf hbw ho2 ho3 hwr
          go_wp2
          go_ret3
          refine ⟨.slice (some ⟨g1, 0, none⟩) (a + 1) k1, .slice (some ⟨g2, 0, none⟩) (xs.length - a) k2, by rw [HE.out]; rfl, ?_, ?_, HBW.out⟩
          · unfold prtA; rw [HE.out, if_pos rfl, Int.toNat_natCast]
            exact HL1.out
          · unfold prtB; rw [HE.out, if_pos rfl, Int.toNat_natCast]
            exact HL2.out
      | false =>
        rw [hg] at HC
        have hE : prtE xs (a : Int) = 14 := by unfold prtE; rw [if_pos HR.out, if_neg (by rintro ⟨_, _, h⟩; rw [Int.toNat_natCast, hg] at h; cases h)]
        have HE := hide hE; clear hE hg
        go_enter Try.func48, Try.ntmps48
        go_wp2_with (first
          | (go_at_call 40; refine HW.out.mono ?_; rintro e w' ⟨rfl, k, rfl⟩)
          | (go_at_call 79; refine (HC.out _).mono ?_; rintro e w1 ⟨rfl, hb1⟩))
        go_ret3
        exact parts_err HE.out (by decide) (back (below_drewN (Below.refl _ _) _) hb1)
  · have hr' : rise 9 100000 xs = false := by simpa using hr
    have e1 : pl xs = 12 := by unfold pl; rw [hr']; rfl
    have hE : prtE xs at' = 12 := by unfold prtE; rw [if_neg hr]
    rw [e1] at hw
    have HW := hide hw; have HE := hide hE
    clear hw hE hr hr' e1 h
    go_enter Try.func48, Try.ntmps48
    go_wp2_with (go_at_call 40; refine HW.out.mono ?_; rintro e w' ⟨rfl, k, rfl⟩)
    go_ret3
    exact parts_err HE.out (by decide) (below_drewN (Below.refl _ _) _)
end Go.Proofs.Ytlpoenoijmifdaa
