import Derived.Test.YtbkdffjdeplcgaaStq
set_option linter.unusedVariables false
set_option linter.unusedSimpArgs false
namespace Go.Proofs.Ytbkdffjdeplcgaa
open Go.RowKit

/-- The values of a polynomial at positions. -/
def polyL (c0 c1 c2 : Int) (xs : List Int) : List Int := xs.map (poly c0 c1 c2)
theorem polyL_at (c0 c1 c2 : Int) (xs : List Int) (i : Nat) (h : i < xs.length) : at_ (polyL c0 c1 c2 xs) i = poly c0 c1 c2 (at_ xs i) := at_map _ _ _ h

theorem small {c x K V : Int} (h1 : -K ≤ c) (h2 : c ≤ K) (h3 : 0 ≤ x) (h4 : x ≤ V) : -(K * V) ≤ c * x ∧ c * x ≤ K * V := by
  have := mul_lim (a := c) (b := x) (K := K) (V := V) ⟨h1, h2⟩ ⟨by omega, h4⟩
  exact this

theorem poly_bd {c0 c1 c2 x : Int} (a0 : -9 ≤ c0) (a1 : c0 ≤ 9) (b0 : -9 ≤ c1) (b1 : c1 ≤ 9) (d0 : -9 ≤ c2) (d1 : c2 ≤ 9) (h3 : 0 ≤ x) (h4 : x ≤ 72049) :
    (-648441 ≤ c1 * x ∧ c1 * x ≤ 648441) ∧ (-648441 ≤ c2 * x ∧ c2 * x ≤ 648441) ∧ (-46719525609 ≤ c2 * x * x ∧ c2 * x * x ≤ 46719525609) ∧ (-46720174059 ≤ poly c0 c1 c2 x ∧ poly c0 c1 c2 x ≤ 46720174059) := by
  have h5 := small b0 b1 h3 h4
  have h6 := small d0 d1 h3 h4
  have h7 := small (c := c2 * x) (x := x) (K := 648441) (V := 72049) (by omega) (by omega) h3 h4
  unfold poly
  refine ⟨by omega, by omega, by omega, by omega⟩

set_option maxRecDepth 100000 in
set_option maxHeartbeats 2000000 in
/-- The sum of weights times the values of a polynomial. -/
theorem added_w (v1 v2 : Value) (ws xs : List Int) (c0 c1 c2 : Int) (w : World) (i1 : IsL w v1 ws) (i2 : IsL w v2 xs) (hl : ws.length = xs.length) (_h9 : xs.length ≤ 9)
    (hw : Lim 10368000 ws) (hx : ∀ i, i < xs.length → 0 ≤ at_ xs i ∧ at_ xs i ≤ 72049) (a0 : -9 ≤ c0) (a1 : c0 ≤ 9) (b0 : -9 ≤ c1) (b1 : c1 ≤ 9) (d0 : -9 ≤ c2) (d1 : c2 ≤ 9) :
    Calls Try.prog 53 #[v1, v2, .agg #[.int .i64 c0, .int .i64 c1, .int .i64 c2]] w fun e w' => e = .returned (.int .i64 (ipN ws (polyL c0 c1 c2 xs) xs.length)) ∧ Below w.heap.size w w' := by
  obtain ⟨p1, q1, rfl, l1, m1, _, k1⟩ := i1
  obtain ⟨p2, q2, rfl, l2, m2, _, k2⟩ := i2
  have HW := hide hw; have HX := hide hx; have HL := hide hl
  have K1 := hide k1; have K2 := hide k2
  rw [hl]
  clear hw hx hl k1 k2 l1 l2 m1 m2
  have sz := Nat.le_refl w.heap.size
  go_enter Try.func53, Try.ntmps53
  go_wp2_with fail
  go_loopw [7, 8] (fun s i wr => ∃ (k q : Nat) (S : Int), i = .int .i64 k ∧ k ≤ xs.length ∧ s = .int .i64 S ∧ Hid (ipN ws (polyL c0 c1 c2 xs) k = S) ∧ wr = (w.alloc (.cells #[.int .i64 c0, .int .i64 c1, .int .i64 c2] 35)).drewN q) (fun _ i _ => xs.length - (intOf i).toNat)
  case atStart => exact ⟨0, 0, 0, rfl, Nat.zero_le _, rfl, hide rfl, rfl⟩
  case round =>
    obtain ⟨k, q, S, rfl, hk, rfl, hS, rfl⟩ := hrel
    by_cases hlt : k < xs.length
    · obtain ⟨g1, o1, rfl, hb1, hc1⟩ := K1.out (by intro h; have := HL.out; rw [h] at this; simp at this; omega)
      obtain ⟨g2, o2, rfl, hb2, hc2⟩ := K2.out (by intro h; subst h; simp at hlt)
      have e1 : w.cell? ⟨g1, o1 + k, none⟩ = some (.int .i64 (at_ ws k)) := hc1 k (by rw [HL.out]; exact hlt)
      have e2 : w.cell? ⟨g2, o2 + k, none⟩ = some (.int .i64 (at_ xs k)) := hc2 k hlt
      have bw := HW.out k
      have bx := HX.out k hlt
      obtain ⟨y1, y2, y3, y4⟩ := poly_bd a0 a1 b0 b1 d0 d1 bx.1 bx.2
      have hn : ipN ws (polyL c0 c1 c2 xs) (k + 1) = S + at_ ws k * (c0 + c1 * at_ xs k + c2 * at_ xs k * at_ xs k) := by
        show ipN ws _ k + at_ ws k * at_ _ k = _
        rw [hS.out, polyL_at _ _ _ _ _ hlt]; rfl
      have hlim : -4359010520000000000 ≤ S ∧ S ≤ 4359010520000000000 := by
        have hv : Lim 46720174059 (polyL c0 c1 c2 xs) := by
          intro i
          by_cases hi : i < xs.length
          · rw [polyL_at _ _ _ _ _ hi]
            exact (poly_bd a0 a1 b0 b1 d0 d1 (HX.out i hi).1 (HX.out i hi).2).2.2.2
          · unfold at_; rw [List.getElem?_eq_none (by unfold polyL; simp; omega)]; simp
        have := ipN_lim HW.out hv k
        rw [hS.out] at this
        omega
      have hm := mul_lim (a := at_ ws k) (b := poly c0 c1 c2 (at_ xs k)) (K := 10368000) (V := 46720174059) bw y4
      unfold poly at hm y4
      obtain ⟨x, hx⟩ : ∃ x, at_ ws k = x := ⟨_, rfl⟩
      obtain ⟨y, hy⟩ : ∃ x, at_ xs k = x := ⟨_, rfl⟩
      rw [hx] at e1 bw hn hm
      rw [hy] at e2 bx hn hm y1 y2 y3 y4
      have HN := hide hn
      clear hn hx hy hc1 hc2
      obtain ⟨bw1, bw2⟩ := bw
      obtain ⟨bx1, bx2⟩ := bx
      obtain ⟨y11, y12⟩ := y1
      obtain ⟨y21, y22⟩ := y2
      obtain ⟨y31, y32⟩ := y3
      obtain ⟨y41, y42⟩ := y4
      obtain ⟨hm1, hm2⟩ := hm
      obtain ⟨hs1, hs2⟩ := hlim
      have hl3 : (k : Int) < xs.length := by omega
      go_wp2
      go_quiet (fail)
      go_wp2
      go_roundw
      case rel => exact ⟨k + 1, _, _, by go_num, by omega, rfl, HN, (by first | rfl | exact World.drewN_drewN _ _ _)⟩
      case measure => simp [intOf]; omega
    · have hl3 : ¬ ((k : Int) < xs.length) := by omega
      obtain rfl : k = xs.length := by omega
      have HS := hS
      go_wp2
      go_ret
      exact ⟨ret_int HS.out.symm, below_drewN ((Below.refl _ _).alloc (Nat.le_refl _) _) _⟩

set_option maxRecDepth 100000 in
set_option maxHeartbeats 2000000 in
theorem integral_w (c0 c1 c2 a b : Int) (w : World) (a0 : -9 ≤ c0) (a1 : c0 ≤ 9) (b0 : -9 ≤ c1) (b1 : c1 ≤ 9) (d0 : -9 ≤ c2) (d1 : c2 ≤ 9) (_ha0 : 0 ≤ a) (_ha1 : a ≤ 100000) (_hb0 : 0 ≤ b) (_hb1 : b ≤ 100000) :
    Calls Try.prog 54 #[.agg #[.int .i64 c0, .int .i64 c1, .int .i64 c2], .int .i64 a, .int .i64 b] w fun e w' => e = .returned (.int .i64 (integ c0 c1 c2 a b)) ∧ Below w.heap.size w w' := by
  have s1 := mul_lim (a := b) (b := b) (K := 100000) (V := 100000) ⟨by omega, _hb1⟩ ⟨by omega, _hb1⟩
  have s2 := mul_lim (a := a) (b := a) (K := 100000) (V := 100000) ⟨by omega, _ha1⟩ ⟨by omega, _ha1⟩
  have s3 := mul_lim (a := b * b) (b := b) (K := 10000000000) (V := 100000) (by omega) ⟨by omega, _hb1⟩
  have s4 := mul_lim (a := a * a) (b := a) (K := 10000000000) (V := 100000) (by omega) ⟨by omega, _ha1⟩
  have s5 := mul_lim (a := 36 * c0) (b := b - a) (K := 324) (V := 100000) (by omega) (by omega)
  have s6 := mul_lim (a := 18 * c1) (b := b * b - a * a) (K := 162) (V := 20000000000) (by omega) (by omega)
  have s7 := mul_lim (a := 12 * c2) (b := b * b * b - a * a * a) (K := 108) (V := 2000000000000000) (by omega) (by omega)
  obtain ⟨s11, s12⟩ := s1
  obtain ⟨s21, s22⟩ := s2
  obtain ⟨s31, s32⟩ := s3
  obtain ⟨s41, s42⟩ := s4
  obtain ⟨s51, s52⟩ := s5
  obtain ⟨s61, s62⟩ := s6
  obtain ⟨s71, s72⟩ := s7
  go_enter Try.func54, Try.ntmps54
  go_wp2
  go_ret
  exact ⟨ret_int rfl, (Below.refl _ _).alloc (Nat.le_refl _) _⟩
end Go.Proofs.Ytbkdffjdeplcgaa
