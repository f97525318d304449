import Derived.Test.YtlpoenoijmifdaaJoi
set_option linter.unusedVariables false
set_option linter.unusedSimpArgs false
namespace Go.Proofs.Ytlpoenoijmifdaa
open Go.RowKit

theorem step_cat {ops : Array Oper} {o : Oper} {a : Act} {w : World} {K : Act → World → Prop} {Q : Exit → Act → World → Prop} {E : Prop} (hgd : o.guard = none) (s x : Operand)
    (ho : o.op = .call { callee := .builtin .append, args := #[s, x], argTypes := #[38, 38] })
    (B : Nat) (v : Value) (xs ys : List Int) (b off m c : Nat) (hown : Own B w v xs) (hs : a.eval s = v) (hx : a.eval x = .slice (some ⟨b, off, none⟩) m c) (hi : IsL w (.slice (some ⟨b, off, none⟩) m c) ys) (h0 : 0 < m) (hl : xs.length + m ≤ 1000000) (hB : B ≤ w.heap.size)
    (h : ∀ v' w', Own B w' v' (xs ++ ys) → Below B w w' → K (a.put o.dst v') w') :
    if Region.wanted o (yielded ops a.tmps) = true then Oper.wp Try.prog o a w K Q else E := by
  obtain ⟨i0, hi0, hz0, hz1, hz2⟩ := info_parts infoI'
  obtain ⟨_, _, hv, _, _, _, h4⟩ := hi
  obtain ⟨rfl, rfl, rfl⟩ := Value.slice.inj hv
  obtain ⟨_, _, e, hbl, hc⟩ := h4 (by intro h; rw [h] at h0; simp at h0)
  cases e
  refine step_append_lies w hgd s x 38 ho B 3 i0 _ 1 8 Try.underlying38 hi0 hz0 hz1 hz2 rfl (by decide) v xs.length (xs.map (Value.int .i64)) hs hown ⟨b, off, none⟩ ys.length c (ys.map (Value.int .i64)) hx (by simp) ?_ ?_ h0 (by simp only [maxLen]; omega) (by omega) hB w.heap.size rfl ?_
  · intro j u hj
    rw [List.getElem?_map] at hj
    by_cases hjl : j < ys.length
    · rw [List.getElem?_eq_getElem hjl] at hj
      simp only [Option.map_some, Option.some.injEq] at hj
      subst hj
      have := hc j hjl
      rw [List.getElem?_eq_getElem hjl] at this
      simp only [Option.getD_some] at this
      by_cases h0 : j = 0
      · subst h0; simpa [Addr.add] using this
      · simpa [Addr.add, h0] using this
    · rw [List.getElem?_eq_none (by omega)] at hj; simp at hj
  · intro u hu
    obtain ⟨z, _, rfl⟩ := List.mem_map.1 hu
    rfl
  · intro g cap w' h1 h2 h3 h4
    refine h _ w' ?_ (grown_below hown hB h2)
    unfold Own
    simpa using h1

theorem join_take (xs ys : List Int) : (xs ++ ys.drop 1).take xs.length = xs := by rw [List.take_left]
theorem join_drop {xs ys : List Int} (hx : 0 < xs.length) (hy : 0 < ys.length) (h : at_ xs (xs.length - 1) = at_ ys 0) : (xs ++ ys.drop 1).drop (xs.length - 1) = ys := by
  apply List.ext_getElem?
  intro i
  rw [List.getElem?_drop]
  by_cases hi : i = 0
  · subst hi
    rw [List.getElem?_append_left (by omega), Nat.add_zero]
    rw [at_get (by omega), at_get hy] at h
    rw [List.getElem?_eq_getElem (by omega), List.getElem?_eq_getElem hy, h]
  · rw [List.getElem?_append_right (by omega), List.getElem?_drop]
    congr 1; omega

set_option maxRecDepth 100000 in
set_option maxHeartbeats 4000000 in
theorem rJoin_w (a1 a2 : Option Addr) (n1 n2 c1 c2 : Nat) (xs ys : List Int) (w : World) (i1 : IsL w (.slice a1 n1 c1) xs) (i2 : IsL w (.slice a2 n2 c2) ys) :
    Calls Try.prog 50 #[.slice a1 n1 c1, .slice a2 n2 c2] w fun e w' => Joined w w' xs ys e := by
  have P1 := rplaces_w a1 n1 c1 xs w i1
  have P2 := fun n : Nat => rplaces_w a2 n2 c2 ys (w.drewN n) (i2.drewN n)
  by_cases R1 : ¬ rise 9 100000 xs = true
  · have e1 : pl xs = 12 := by unfold pl; rw [if_neg R1]
    rw [e1] at P1
    have hE : joiE xs ys = 12 := by unfold joiE; rw [if_neg (fun hh => R1 hh.1)]
    have HP1 := hide P1; have HE := hide hE
    clear P1 P2 e1 hE R1 i1 i2
    go_enter Try.func50, Try.ntmps50
    go_wp2_with (go_at_call 40; refine HP1.out.mono ?_; rintro e w' ⟨rfl, n, rfl⟩)
    go_ret2
    exact join_err HE.out (by decide) (below_drewN (Below.refl _ _) _)
  have R1 := Decidable.not_not.1 R1
  have e1 : pl xs = 0 := by unfold pl; rw [R1]; rfl
  rw [e1] at P1
  clear e1
  by_cases R2 : ¬ rise 9 100000 ys = true
  · have e1 : pl ys = 12 := by unfold pl; rw [if_neg R2]
    rw [e1] at P2
    have hE : joiE xs ys = 12 := by unfold joiE; rw [if_neg (fun hh => R2 hh.2)]
    have HP1 := hide P1; have HP2 := hide P2; have HE := hide hE
    clear P1 P2 e1 hE R1 R2 i1 i2
    go_enter Try.func50, Try.ntmps50
    go_wp2_with (first | (go_at_call 40; refine HP1.out.mono ?_; rintro e w' ⟨rfl, n, rfl⟩) | (go_at_call 40; refine (HP2.out _).mono ?_; rintro e w' ⟨rfl, n2, rfl⟩))
    go_ret2
    exact join_err HE.out (by decide) (below_drewN (Below.refl _ _) _)
  have R2 := Decidable.not_not.1 R2
  have e1 : pl ys = 0 := by unfold pl; rw [R2]; rfl
  rw [e1] at P2
  clear e1
  have p1 := Pos.of R1
  have p2 := Pos.of R2
  have x2 := p1.lo
  have x9 := p1.hi
  have y2 := p2.lo
  have y9 := p2.hi
  obtain ⟨rfl, q1, q2, b1, o1, rfl, l1, d1⟩ := pos_form i1 p1
  obtain ⟨rfl, r1, r2, b2, o2, rfl, l2, d2⟩ := pos_form i2 p2
  unfold maxLen at q2 r2
  have g1 : w.cell? ⟨b1, o1 + (xs.length - 1), none⟩ = some (.int .i64 (at_ xs (xs.length - 1))) := d1 _ (by omega)
  have g2 : w.cell? ⟨b2, o2, none⟩ = some (.int .i64 (at_ ys 0)) := d2 0 (by omega)
  have f1 : (0 : Int) ≤ (xs.length : Int) - 1 := by omega
  have f2 : ((xs.length : Int) - 1).toNat = xs.length - 1 := by omega
  have f3 : (1 : Int) ≤ xs.length := by omega
  have f4 : xs.length - 1 < xs.length := by omega
  have f5 : (0 : Int) < ys.length := by omega
  have f6 : 0 < ys.length := by omega
  have f7 : ys ≠ [] := by intro h; rw [h] at f6; simp at f6
  have f8 : (xs.length : Int) - 1 < xs.length := by omega
  have hwr : IntKind.i64.wrap ((xs.length : Int) - 1) = (xs.length : Int) - 1 := IntWalk.i64_in _ (by omega)
  have HR1 := hide R1; have HR2 := hide R2; have HQ1 := hide p1; have HQ2 := hide p2; have HP1 := hide P1; have HP2 := hide P2; have HI1 := hide i1; have HI2 := hide i2
  by_cases hj : ¬ at_ xs (xs.length - 1) = at_ ys 0
  · have hE : joiE xs ys = 14 := by unfold joiE; rw [if_pos ⟨R1, R2⟩, if_neg hj]
    have HE := hide hE
    obtain ⟨z, hz⟩ : ∃ z, at_ ys 0 = z := ⟨_, rfl⟩
    obtain ⟨y, hy⟩ : ∃ z, at_ xs (xs.length - 1) = z := ⟨_, rfl⟩
    rw [hy] at g1 hj
    rw [hz] at g2 hj
    have hzz : (y != z) = true := by simpa using hj
    clear hj hz hy hE R1 R2 p1 p2 d1 d2 P1 P2 i1 i2
    go_enter Try.func50, Try.ntmps50
    go_wp2_with (first | (go_at_call 40; refine HP1.out.mono ?_; rintro e w' ⟨rfl, n, rfl⟩) | (go_at_call 40; refine (HP2.out _).mono ?_; rintro e w' ⟨rfl, n2, rfl⟩))
    go_quiet (fail)
    go_wp2
    go_ret2
    exact join_err HE.out (by decide) (below_drewN (below_drewN (Below.refl _ _) _) _)
  have hj := Decidable.not_not.1 hj
  have HJ := hide hj
  obtain ⟨z, hz⟩ : ∃ z, at_ ys 0 = z := ⟨_, rfl⟩
  rw [hj] at g1
  rw [hz] at g1 g2
  have hzz : (z != z) = false := by simp
  clear hj hz R1 R2 p1 p2 d1 d2 P1 P2 i1 i2
  have s1 : 1 ≤ c2 := by omega
  have s2 : ¬ c2 = 1 := by omega
  have s3 : 1 ≤ ys.length := by omega
  have s4 : c2 ≠ 1 := s2
  have hld : (ys.drop 1).length = ys.length - 1 := List.length_drop
  have HLD := hide hld
  clear hld
  have t1 : (1 : Int) ≤ (ys.length : Int) := by omega
  have t2 : (1 : Int) ≤ (c2 : Int) := by omega
  have t3 : (ys.length : Int) ≤ (c2 : Int) := by omega
  have t4 : ¬ (ys.length : Int) < 1 := by omega
  have t5 : (0 : Int) ≤ 1 := by omega
  have t6 : ys.length ≤ c2 := by omega
  have t7 : ¬ ys.length < 1 := by omega
  go_enter Try.func50, Try.ntmps50
  go_wp2_with (first | (go_at_call 40; refine HP1.out.mono ?_; rintro e w' ⟨rfl, n, rfl⟩) | (go_at_call 40; refine (HP2.out _).mono ?_; rintro e w' ⟨rfl, n2, rfl⟩))
  go_quiet (fail)
  go_wp2_with fail
  obtain ⟨X, hX⟩ : ∃ X, (w.drewN (n + n2)).drewN nq = X := ⟨_, rfl⟩
  have hB0 : Below w.heap.size w X := by rw [← hX]; exact below_drewN (below_drewN (Below.refl _ _) _) _
  have hz0 := hB0.size
  rw [hX]
  clear hX hwr g1 g2
  go_region_held3 (fun V => Below w.heap.size w V) (repeat (first | exact hB0 | assumption | refine Below.alloc ?_ (by first | omega | (simp; omega)) _ | refine Below.drew ?_ | refine back ?_ (by assumption)))
    (first
      | (refine step_copy (o := ⟨some 27, _, _, _, _, _⟩) (by rfl) (.tmp 25) (.tmp 26) (by rfl) _ xs b1 o1 xs.length c1 (by rfl) (by rfl) (HI1.out.below (by first | assumption | exact hB0)) (by omega) (by omega) ?_; intro v2 w2 ho2 hb2; have hz2 := hb2.size; (try simp at hz2))
      | (refine step_cat (o := ⟨some 30, _, _, _, _, _⟩) (by rfl) (.tmp 27) (.tmp 29) (by rfl) _ v2 xs (ys.drop 1) b2 (o2 + 1) (ys.length - 1) (c2 - 1) ho2 (by rfl) (by rfl) (IsLB.back' (HI2.out.below (by first | assumption | exact hB0)) (by omega)) (by omega) (by omega) hb2.size ?_; intro v3 w3 ho3 hb3; have hz3 := hb3.size; (try simp at hz3); have hB3 := (show Below w.heap.size w w2 from (by (repeat (first | exact hB0 | assumption | refine back ?_ (by assumption))))).trans (hb3.mono (by first | omega | (simp; omega)))))
  have hwr : IntKind.i64.wrap ((xs.length : Int) - 1) = (xs.length : Int) - 1 := IntWalk.i64_in _ (by omega)
  have HB3 := hide (show Below w.heap.size w w3 by assumption)
  have hwl : (xs ++ ys.drop 1).length = xs.length + (ys.length - 1) := by rw [List.length_append, HLD.out]
  have hfb : ∀ x ∈ xs ++ ys.drop 1, FB x := by
    intro x hx
    rcases List.mem_append.1 hx with hx | hx
    · exact pos_FB HQ1.out x hx
    · exact pos_FB HQ2.out x (List.mem_of_mem_drop hx)
  have hL := ho3.isL hfb
  obtain ⟨g, gc, rfl, _, _, _⟩ := ho3.form hwl (by omega)
  have hLw : IsL w3 (.slice (some ⟨g, 0, none⟩) (xs.length + (ys.length - 1)) gc) (xs ++ ys.drop 1) := hL
  have HL := hide hLw
  have C := rplaces_w (some ⟨g, 0, none⟩) (xs.length + (ys.length - 1)) gc (xs ++ ys.drop 1) w3 HL.out
  have HWL := hide hwl
  clear hL hLw ho3 ho2 hb2 hb3 hB3 hfb hwl hB0 hz0 hz2 hz3
  by_cases h : rise 9 100000 (xs ++ ys.drop 1) = true
  · have e1 : pl (xs ++ ys.drop 1) = 0 := by unfold pl; rw [h]; rfl
    rw [e1] at C
    have hpw := Pos.of h
    have hx1 : xs.length - 1 + 1 = xs.length := by omega
    have hcast : ((xs.length - 1 : Nat) : Int) = (xs.length : Int) - 1 := by omega
    have hag : agB (xs ++ ys.drop 1) (xs.length - 1) = dvB xs ys (xs ++ ys.drop 1) := by
      rw [agB_eq _ _ (by rw [hx1, join_take]), hx1, join_take, join_drop (by omega) (by omega) HJ.out]
    have D := fun n : Nat => agree_w g 0 (xs.length + (ys.length - 1)) gc (xs ++ ys.drop 1) (xs.length - 1) (w3.drewN n) (HL.out.drewN n) hpw (by omega) (by rw [HWL.out]; omega)
    have HC := hide C
    cases hd : dvB xs ys (xs ++ ys.drop 1) with
    | true =>
      simp only [hcast, hag, hd] at D
      have hE : joiE xs ys = 0 := by unfold joiE; rw [if_pos ⟨HR1.out, HR2.out⟩, if_pos HJ.out, if_pos h, if_pos hd]
      have HE := hide hE; have HD := hide D
      clear C D hE hd h e1 hpw hx1 hcast hag
      go_wp2_with (first
        | (go_at_call 40; refine HC.out.mono ?_; rintro e w' ⟨rfl, n, rfl⟩)
        | (go_at_call 79; refine (HD.out _).mono ?_; rintro e w9 ⟨rfl, hb9⟩))
      go_ret2
      refine ⟨.slice (some ⟨g, 0, none⟩) (xs.length + (ys.length - 1)) gc, by rw [HE.out]; rfl, ?_, back (below_drewN HB3.out _) hb9⟩
      unfold joiL; rw [HE.out, if_pos rfl]
      exact (HL.out.drewN _).below hb9
    | false =>
      simp only [hcast, hag, hd] at D
      have hE : joiE xs ys = 14 := by unfold joiE; rw [if_pos ⟨HR1.out, HR2.out⟩, if_pos HJ.out, if_pos h, if_neg (by rw [hd]; decide)]
      have HE := hide hE; have HD := hide D
      clear C D hE hd h e1 hpw hx1 hcast hag
      go_wp2_with (first
        | (go_at_call 40; refine HC.out.mono ?_; rintro e w' ⟨rfl, n, rfl⟩)
        | (go_at_call 79; refine (HD.out _).mono ?_; rintro e w9 ⟨rfl, hb9⟩))
      go_ret2
      exact join_err HE.out (by decide) (back (below_drewN HB3.out _) hb9)
  · have e1 : pl (xs ++ ys.drop 1) = 12 := by unfold pl; rw [if_neg h]
    rw [e1] at C
    have hE : joiE xs ys = 12 := by unfold joiE; rw [if_pos ⟨HR1.out, HR2.out⟩, if_pos HJ.out, if_neg h]
    have HC := hide C; have HE := hide hE
    clear C hE e1 h
    go_wp2_with (go_at_call 40; refine HC.out.mono ?_; rintro e w' ⟨rfl, n, rfl⟩)
    go_ret2
    exact join_err HE.out (by decide) (below_drewN HB3.out _)
end Go.Proofs.Ytlpoenoijmifdaa
