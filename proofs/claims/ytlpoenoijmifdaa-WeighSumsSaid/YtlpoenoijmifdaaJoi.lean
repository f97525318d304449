import Derived.Test.YtlpoenoijmifdaaCon
set_option linter.unusedVariables false
set_option linter.unusedSimpArgs false
namespace Go.Proofs.Ytlpoenoijmifdaa
open Go.RowKit

/-- The error of joining. -/
def joiE (xs ys : List Int) : Int :=
  if rise 9 100000 xs = true ∧ rise 9 100000 ys = true then
    (if at_ xs (xs.length - 1) = at_ ys 0 then (if rise 9 100000 (xs ++ ys.drop 1) = true then (if dvB xs ys (xs ++ ys.drop 1) = true then 0 else 14) else 12) else 14)
  else 12
def joiL (xs ys : List Int) : List Int := if joiE xs ys = 0 then xs ++ ys.drop 1 else []

def Joined (w w' : World) (xs ys : List Int) (e : Ending) : Prop := ∃ v, e = .returned (.tuple #[v, .int .i64 (joiE xs ys)]) ∧ IsL w' v (joiL xs ys) ∧ Below w.heap.size w w'

theorem join_err {w w' : World} {xs ys : List Int} {c : Int} (h : joiE xs ys = c) (hc : c ≠ 0) (hb : Below w.heap.size w w') : Joined w w' xs ys (.returned (.tuple #[.slice none 0 0, .int .i64 c])) := by
  refine ⟨_, by rw [h], ?_, hb⟩
  unfold joiL; rw [h, if_neg hc]; exact IsLB.nil _ _

/-- A slice of valid positions: where it lies. -/
theorem pos_form {a0 : Option Addr} {n cap : Nat} {xs : List Int} {w : World} (h : IsL w (.slice a0 n cap) xs) (hp : Pos xs) :
    n = xs.length ∧ xs.length ≤ cap ∧ cap ≤ maxLen ∧ ∃ b off, a0 = some ⟨b, off, none⟩ ∧ b < w.heap.size ∧ ∀ i, i < xs.length → w.cell? ⟨b, off + i, none⟩ = some (.int .i64 (at_ xs i)) := by
  obtain ⟨_, _, hv, h1, h2, _, h4⟩ := id h
  obtain ⟨rfl, rfl, rfl⟩ := Value.slice.inj hv
  obtain ⟨b, off, e, hlt, hc⟩ := h4 (by intro h; have := hp.lo; rw [h] at this; simp at this)
  exact ⟨rfl, h1, h2, b, off, e, hlt, hc⟩

set_option maxRecDepth 100000 in
set_option maxHeartbeats 4000000 in
theorem Join_w (a1 a2 : Option Addr) (n1 n2 c1 c2 : Nat) (xs ys : List Int) (w : World) (i1 : IsL w (.slice a1 n1 c1) xs) (i2 : IsL w (.slice a2 n2 c2) ys) :
    Calls Try.prog 49 #[.slice a1 n1 c1, .slice a2 n2 c2] w fun e w' => Joined w w' xs ys e := by
  have P1 := fun X (hX : Below w.heap.size w X) => places_w a1 n1 c1 xs X (i1.below hX)
  have P2 := fun X (hX : Below w.heap.size w X) => places_w a2 n2 c2 ys X (i2.below hX)
  have HP1 := hide P1; have HP2 := hide P2; have HI1 := hide i1; have HI2 := hide i2
  clear P1 P2 i1 i2
  go_enter Try.func49, Try.ntmps49
  go_wp2_with fail
  go_loopw [15] (fun i wr => ∃ k n : Nat, i = .int .i64 k ∧ k ≤ 2 ∧ Hid (1 ≤ k → rise 9 100000 xs = true) ∧ Hid (2 ≤ k → rise 9 100000 ys = true) ∧ wr = (w.alloc (.cells #[.slice a1 n1 c1, .slice a2 n2 c2] 38)).drewN n) (fun i _ => 2 - (intOf i).toNat)
  case atStart => exact ⟨0, 0, rfl, by omega, hide (by omega), hide (by omega), rfl⟩
  case round =>
    obtain ⟨k, q, rfl, hk, hr1, hr2, rfl⟩ := hrel
    have hB0 := hide (below_drewN ((Below.refl w.heap.size w).alloc (Nat.le_refl _) (.cells #[.slice a1 n1 c1, .slice a2 n2 c2] 38)) q)
    by_cases hk0 : k = 0
    · subst hk0
      have C := HP1.out _ hB0.out
      simp only [Int.natCast_zero]
      by_cases h : rise 9 100000 xs = true
      · have e1 : pl xs = 0 := by unfold pl; rw [h]; rfl
        rw [e1] at C
        have HC := hide C; have HR := hide h
        clear C e1 h
        go_wp2_with (go_at_call 39; refine HC.out.mono ?_; rintro e w' ⟨rfl, n, rfl⟩)
        go_roundw
        case rel => exact ⟨1, _, rfl, by omega, hide (fun _ => HR.out), hide (by omega), (by first | rfl | exact World.drewN_drewN _ _ _)⟩
        case measure => simp [intOf]
      · have e1 : pl xs = 12 := by unfold pl; rw [if_neg h]
        rw [e1] at C
        have hE : joiE xs ys = 12 := by unfold joiE; rw [if_neg (fun hh => h hh.1)]
        have HC := hide C; have HE := hide hE
        clear C e1 h hE
        go_wp2_with (go_at_call 39; refine HC.out.mono ?_; rintro e w' ⟨rfl, n, rfl⟩)
        go_ret2
        exact join_err HE.out (by decide) (by first | exact below_drewN hB0.out _ | exact below_drewN ((Below.refl w.heap.size w).alloc (Nat.le_refl _) _) _)
    by_cases hk1 : k = 1
    · subst hk1
      have C := HP2.out _ hB0.out
      have HR1 := hide (hr1.out (by omega))
      simp only [Int.natCast_one]
      by_cases h : rise 9 100000 ys = true
      · have e1 : pl ys = 0 := by unfold pl; rw [h]; rfl
        rw [e1] at C
        have HC := hide C; have HR := hide h
        clear C e1 h
        go_wp2_with (go_at_call 39; refine HC.out.mono ?_; rintro e w' ⟨rfl, n, rfl⟩)
        go_roundw
        case rel => exact ⟨2, _, rfl, by omega, hide (fun _ => HR1.out), hide (fun _ => HR.out), (by first | rfl | exact World.drewN_drewN _ _ _)⟩
        case measure => simp [intOf]
      · have e1 : pl ys = 12 := by unfold pl; rw [if_neg h]
        rw [e1] at C
        have hE : joiE xs ys = 12 := by unfold joiE; rw [if_neg (fun hh => h hh.2)]
        have HC := hide C; have HE := hide hE
        clear C e1 h hE
        go_wp2_with (go_at_call 39; refine HC.out.mono ?_; rintro e w' ⟨rfl, n, rfl⟩)
        go_ret2
        exact join_err HE.out (by decide) (by first | exact below_drewN hB0.out _ | exact below_drewN ((Below.refl w.heap.size w).alloc (Nat.le_refl _) _) _)
    obtain rfl : k = 2 := by omega
    have R1 := hr1.out (by omega)
    have R2 := hr2.out (by omega)
    have p1 := Pos.of R1
    have p2 := Pos.of R2
    have x2 := p1.lo
    have x9 := p1.hi
    have y2 := p2.lo
    have y9 := p2.hi
    obtain ⟨rfl, q1, q2, b1, o1, rfl, l1, d1⟩ := pos_form HI1.out p1
    obtain ⟨rfl, r1, r2, b2, o2, rfl, l2, d2⟩ := pos_form HI2.out p2
    unfold maxLen at q2 r2
    obtain ⟨X, hX⟩ : ∃ X, (w.alloc (.cells #[.slice (some ⟨b1, o1, none⟩) xs.length c1, .slice (some ⟨b2, o2, none⟩) ys.length c2] 38)).drewN q = X := ⟨_, rfl⟩
    rw [hX] at hB0 ⊢
    clear hX
    have g1 : X.cell? ⟨b1, o1 + (xs.length - 1), none⟩ = some (.int .i64 (at_ xs (xs.length - 1))) := (hB0.out.cell (p := ⟨b1, o1 + (xs.length - 1), none⟩) l1).trans (d1 _ (by omega))
    have g2 : X.cell? ⟨b2, o2, none⟩ = some (.int .i64 (at_ ys 0)) := (hB0.out.cell (p := ⟨b2, o2, none⟩) l2).trans (d2 0 (by omega))
    have f1 : (0 : Int) ≤ (xs.length : Int) - 1 := by omega
    have f2 : ((xs.length : Int) - 1).toNat = xs.length - 1 := by omega
    have f3 : (1 : Int) ≤ xs.length := by omega
    have f4 : xs.length - 1 < xs.length := by omega
    have f5 : (0 : Int) < ys.length := by omega
    have f6 : 0 < ys.length := by omega
    have f7 : ys ≠ [] := by intro h; rw [h] at f6; simp at f6
    have f8 : (xs.length : Int) - 1 < xs.length := by omega
    have hwr : IntKind.i64.wrap ((xs.length : Int) - 1) = (xs.length : Int) - 1 := IntWalk.i64_in _ (by omega)
    have HR1 := hide R1; have HR2 := hide R2; have HQ1 := hide p1; have HQ2 := hide p2
    simp only [Int.cast_ofNat_Int]
    by_cases hj : at_ xs (xs.length - 1) = at_ ys 0
    · obtain ⟨z, hz⟩ : ∃ z, at_ ys 0 = z := ⟨_, rfl⟩
      have HJ := hide hj
      rw [hj] at g1
      rw [hz] at g1 g2
      have hzz : (z != z) = false := by simp
      clear hj hz R1 R2 p1 p2 d1 d2 hr1 hr2
      go_wp2_with fail
      go_quiet (fail)
      have s1 : 1 ≤ c2 := by omega
      have s2 : ¬ c2 = 1 := by omega
      have s3 : 1 ≤ ys.length := by omega
      have s4 : c2 ≠ 1 := s2
      have hld : (ys.drop 1).length = ys.length - 1 := List.length_drop
      go_wp2_with fail
      have hBn := below_drewN hB0.out nq
      obtain ⟨Y, hY⟩ : ∃ Y, X.drewN nq = Y := ⟨_, rfl⟩
      have hYs : Y.heap.size = X.heap.size := by rw [← hY]; rfl
      rw [hY] at hBn ⊢
      rw [← hYs]
      clear hY hYs
      have I1 : IsL (Y.alloc (.cells #[.slice (some ⟨b1, o1, none⟩) xs.length c1, .slice (some ⟨b2, o2 + 1, none⟩) (ys.length - 1) (c2 - 1)] 38)) (.slice (some ⟨b1, o1, none⟩) xs.length c1) xs := HI1.out.below (hBn.alloc hBn.size _)
      have I2 : IsL (Y.alloc (.cells #[.slice (some ⟨b1, o1, none⟩) xs.length c1, .slice (some ⟨b2, o2 + 1, none⟩) (ys.length - 1) (c2 - 1)] 38)) (.slice (some ⟨b2, o2 + 1, none⟩) (ys.length - 1) (c2 - 1)) (ys.drop 1) := IsLB.back' (HI2.out.below (hBn.alloc hBn.size _)) (by omega)
      have CC := concat_w Y.heap.size b1 o1 xs.length c1 b2 (o2 + 1) (ys.length - 1) (c2 - 1) xs (ys.drop 1) _ (by simp) (by simp) I1 I2 (by omega) (by omega) (by omega) (by omega)
      have HCC := hide CC; have hBY := hide (hBn.alloc hBn.size (.cells #[.slice (some ⟨b1, o1, none⟩) xs.length c1, .slice (some ⟨b2, o2 + 1, none⟩) (ys.length - 1) (c2 - 1)] 38))
      have HLD := hide hld
      clear CC I1 I2 hBn hld hwr
      refine HCC.out.mono ?_
      rintro e w3 ⟨v, rfl, ho, hb⟩
      have hB3 := hide (back hBY.out hb)
      have hwl : (xs ++ ys.drop 1).length = xs.length + (ys.length - 1) := by rw [List.length_append, HLD.out]
      have hfb : ∀ x ∈ xs ++ ys.drop 1, FB x := by
        intro x hx
        rcases List.mem_append.1 hx with hx | hx
        · exact pos_FB HQ1.out x hx
        · exact pos_FB HQ2.out x (List.mem_of_mem_drop hx)
      have hL := ho.isL hfb
      obtain ⟨g, gc, rfl, _, _, _⟩ := ho.form hwl (by omega)
      have hLw : IsL w3 (.slice (some ⟨g, 0, none⟩) (xs.length + (ys.length - 1)) gc) (xs ++ ys.drop 1) := hL
      have HL := hide hLw
      have C := places_w (some ⟨g, 0, none⟩) (xs.length + (ys.length - 1)) gc (xs ++ ys.drop 1) w3 HL.out
      clear hL hLw ho hb hfb hwl HCC hBY
      by_cases h : rise 9 100000 (xs ++ ys.drop 1) = true
      · have e1 : pl (xs ++ ys.drop 1) = 0 := by unfold pl; rw [h]; rfl
        rw [e1] at C
        have hpw := Pos.of h
        have D := fun n : Nat => divides_w _ _ _ _ _ _ _ _ _ xs ys (xs ++ ys.drop 1) (w3.drewN n) (HI1.out.below (below_drewN hB3.out n)) (HI2.out.below (below_drewN hB3.out n)) (HL.out.drewN n) HQ1.out HQ2.out hpw
        have HC := hide C
        cases hd : dvB xs ys (xs ++ ys.drop 1) with
        | true =>
          rw [hd] at D
          have hE : joiE xs ys = 0 := by unfold joiE; rw [if_pos ⟨HR1.out, HR2.out⟩, if_pos HJ.out, if_pos h, if_pos hd]
          have HE := hide hE; have HD := hide D
          clear C D hE hd h e1 hpw
          go_wp2_with (first
            | (go_at_call 39; refine HC.out.mono ?_; rintro e w' ⟨rfl, n, rfl⟩)
            | (go_at_call 78; refine (HD.out _).mono ?_; rintro e w9 ⟨rfl, hb9⟩))
          go_ret2
          refine ⟨.slice (some ⟨g, 0, none⟩) (xs.length + (ys.length - 1)) gc, by rw [HE.out]; rfl, ?_, back (below_drewN hB3.out _) hb9⟩
          unfold joiL; rw [HE.out, if_pos rfl]
          exact (HL.out.drewN _).below hb9
        | false =>
          rw [hd] at D
          have hE : joiE xs ys = 14 := by unfold joiE; rw [if_pos ⟨HR1.out, HR2.out⟩, if_pos HJ.out, if_pos h, if_neg (by rw [hd]; decide)]
          have HE := hide hE; have HD := hide D
          clear C D hE hd h e1 hpw
          go_wp2_with (first
            | (go_at_call 39; refine HC.out.mono ?_; rintro e w' ⟨rfl, n, rfl⟩)
            | (go_at_call 78; refine (HD.out _).mono ?_; rintro e w9 ⟨rfl, hb9⟩))
          go_ret2
          exact join_err HE.out (by decide) (back (below_drewN hB3.out _) hb9)
      · have e1 : pl (xs ++ ys.drop 1) = 12 := by unfold pl; rw [if_neg h]
        rw [e1] at C
        have hE : joiE xs ys = 12 := by unfold joiE; rw [if_pos ⟨HR1.out, HR2.out⟩, if_pos HJ.out, if_neg h]
        have HC := hide C; have HE := hide hE
        clear C hE e1 h
        go_wp2_with (go_at_call 39; refine HC.out.mono ?_; rintro e w' ⟨rfl, n, rfl⟩)
        go_ret2
        exact join_err HE.out (by decide) (below_drewN hB3.out _)
    · have hE : joiE xs ys = 14 := by unfold joiE; rw [if_pos ⟨R1, R2⟩, if_neg hj]
      have HE := hide hE
      obtain ⟨z, hz⟩ : ∃ z, at_ ys 0 = z := ⟨_, rfl⟩
      obtain ⟨y, hy⟩ : ∃ z, at_ xs (xs.length - 1) = z := ⟨_, rfl⟩
      rw [hy] at g1 hj
      rw [hz] at g2 hj
      have hzz : (y != z) = true := by simpa using hj
      clear hj hz hy hE R1 R2 p1 p2 d1 d2 hr1 hr2
      go_wp2_with fail
      go_quiet (fail)
      go_wp2
      go_ret2
      exact join_err HE.out (by decide) (below_drewN hB0.out _)
end Go.Proofs.Ytlpoenoijmifdaa
