import Derived.Test.YtbkdffjdeplcgaaAdl
import Derived.Test.YtbkdffjdeplcgaaCat
import Derived.Test.YtbkdffjdeplcgaaLsc
import Derived.Deep.RegionHeld3
import Derived.StillTailTactics
import Derived.IntWalk
set_option linter.unusedVariables false
set_option linter.unusedSimpArgs false
namespace Go.Proofs.Ytbkdffjdeplcgaa
open Go.RowKit

theorem Groups_pos (a : Option Addr) (n cap : Nat) (xs : List Int) (w : World) (h : IsL w (.slice a n cap) xs) (hp : Pos xs) :
    Calls Try.prog 33 #[.slice a n cap] w fun e w' => ∃ a' c', e = .returned (.tuple #[.slice a' (grs xs).length c', .int .i64 0]) ∧ IsGB w'.heap.size w' (.slice a' (grs xs).length c') (grs xs) ∧ Below w.heap.size w w' := by
  refine (Groups_w a n cap xs w h).mono ?_
  rintro e w' ⟨v, he, hv, hb⟩
  rw [grsE_pos hp] at hv
  rw [pl_pos hp] at he
  obtain ⟨a', c', rfl, _⟩ := id hv
  exact ⟨a', c', he, hv, hb⟩

/-- A part of positions with small steps. -/
theorem part_facts {xs : List Int} (hst : Stp 9000 xs) (h2 : 2 ≤ xs.length) (h9 : xs.length ≤ 9) {a m : Nat} (hm : 1 ≤ m) (ha : a + m < xs.length) :
    ((xs.drop a).take (m + 1)).length = m + 1 ∧ Pos ((xs.drop a).take (m + 1)) ∧ Lim 10368000 (wts ((xs.drop a).take (m + 1))) ∧ ∀ i, i < m + 1 → at_ ((xs.drop a).take (m + 1)) i = at_ xs (a + i) ∧ 0 ≤ at_ ((xs.drop a).take (m + 1)) i ∧ at_ ((xs.drop a).take (m + 1)) i ≤ 72049 := by
  have hl : ((xs.drop a).take (m + 1)).length = m + 1 := by rw [List.length_take, List.length_drop]; omega
  have hp := hst.pos h2 h9 (by omega) (by omega)
  have hpp : Pos ((xs.drop a).take (m + 1)) := (hp.drop (a := a) (by omega)).take (by omega) (by rw [List.length_drop]; omega)
  have hat : ∀ i, i < m + 1 → at_ ((xs.drop a).take (m + 1)) i = at_ xs (a + i) := fun i hi => at_part _ _ _ _ hi
  refine ⟨hl, hpp, wts_48 (M := 9000) hpp (by omega) fun i hi => ?_, fun i hi => ?_⟩
  · rw [hat _ (by omega), hat _ (by omega)]
    exact hst.gap (a + i) (by omega)
  · have := hst.bd (a + i) (by omega)
    rw [hat i hi]
    exact ⟨rfl, by omega, by omega⟩

theorem part_exact {xs : List Int} (hst : Stp 9000 xs) (h2 : 2 ≤ xs.length) (h9 : xs.length ≤ 9) {a : Nat} (hm : many xs a = 2) (c0 c1 c2 : Int) :
    ipN (wts ((xs.drop a).take 3)) (polyL c0 c1 c2 ((xs.drop a).take 3)) 3 = integ c0 c1 c2 (at_ ((xs.drop a).take 3) 0) (at_ ((xs.drop a).take 3) 2) := by
  obtain ⟨h3, hr⟩ := many_two' hm
  obtain ⟨hl, hpp, _, hat⟩ := part_facts hst h2 h9 (a := a) (m := 2) (by omega) h3
  have e1 := dot_ip (polyL c0 c1 c2 ((xs.drop a).take 3)) hpp
  rw [hl] at e1
  rw [← e1]
  have hg : grs ((xs.drop a).take 3) = [(0, 2)] := by
    refine grs_two hl ?_
    rw [(hat 1 (by omega)).1, (hat 0 (by omega)).1, (hat 2 (by omega)).1]; exact hr
  unfold dot
  rw [dot_sumQ c0 c1 c2 ((xs.drop a).take 3) _ _ (fun p hp => polyL_at _ _ _ _ _ (cons_lt p hp)), cons_exact c0 c1 c2 hpp.up (by rw [hl]; omega) (.inr (by rw [hg]; simp)), hl]
  exact Int.zero_add _

theorem whole_exact {xs : List Int} (hp : Pos xs) (c0 c1 c2 : Int) (h : c2 = 0 ∨ ∀ g ∈ grs xs, g.2 = 2) : ipN (wts xs) (polyL c0 c1 c2 xs) xs.length = integ c0 c1 c2 (at_ xs 0) (at_ xs (xs.length - 1)) := by
  rw [← dot_ip _ hp]
  unfold dot
  rw [dot_sumQ c0 c1 c2 xs _ _ (fun p hp => polyL_at _ _ _ _ _ (cons_lt p hp)), cons_exact c0 c1 c2 hp.up (by have := hp.lo; omega) h]
  omega

/-- A round of the loop over the groups. -/
theorem round_grs {xs : List Int} {gs : List (Nat × Nat)} {a k : Nat} (h : grs xs = gs ++ grsFrom xs a) (hk : gs.length = k) :
    (k < (grs xs).length → a + 1 < xs.length ∧ (grs xs)[k]?.getD (0, 0) = (a, many xs a) ∧ grs xs = (gs ++ [(a, many xs a)]) ++ grsFrom xs (a + many xs a) ∧ a + many xs a < xs.length) ∧
    (¬ k < (grs xs).length → ¬ a + 1 < xs.length ∧ grs xs = gs) := by
  subst hk
  by_cases ha : a + 1 < xs.length
  · have hs := grsFrom_step xs a ha
    have hlt : a + many xs a < xs.length := by unfold many; split <;> omega
    refine ⟨fun _ => ⟨ha, ?_, ?_, hlt⟩, fun hn => absurd ?_ hn⟩
    · rw [h, hs]; simp
    · rw [h, hs]; simp
    · rw [h, hs]; simp
  · have he := grsFrom_end xs a ha
    rw [he, List.append_nil] at h
    exact ⟨fun hl => by rw [h] at hl; omega, fun _ => ⟨ha, h⟩⟩


/-- wpStill, not to be unfolded by the way. -/
structure WS (P : Program) (ops : Array Oper) (w : World) (Q : Act → Prop) (l : List Oper) (a : Act) : Prop where
  out : wpStill P ops w Q l a
theorem WS.step {P : Program} {ops : Array Oper} {w : World} {Q : Act → Prop} {o : Oper} {rest : List Oper} {a : Act}
    (h : ∀ K : Act → Prop, (∀ a, WS P ops w Q rest a → K a) → if Region.wanted o (yielded ops a.tmps) then o.still P a w K else K (a.put o.dst undef)) : WS P ops w Q (o :: rest) a :=
  ⟨wpStill_step fun K hK => h K fun a ha => hK a ha.out⟩
theorem WS.nil {P : Program} {ops : Array Oper} {w : World} {Q : Act → Prop} {a : Act} (h : Q a) : WS P ops w Q [] a := ⟨wpStill_nil h⟩

set_option maxRecDepth 100000 in
set_option maxHeartbeats 8000000 in
theorem lawExact_w (W : World) (a : Option Addr) (n cap : Nat) (ls : List Int) (h : IsL W (.slice a n cap) ls) (hm : ls.length ≤ 1000000000000000000) (x0 x1 x2 : Int) (f0 : FB x0) (f1 : FB x1) (f2 : FB x2) :
    Calls Try.prog 8 #[.slice a n cap, .agg #[.int .i64 x0, .int .i64 x1, .int .i64 x2]] W fun e w' => e = .returned (.bool true) ∧ Below W.heap.size W w' := by
  have P : ∀ W' : World, Below W.heap.size W W' → Calls Try.prog 51 #[.slice a n cap, .int .i64 9, .int .i64 3000] W' fun e w' => Drawn W'.heap.size 3000 9 e W' w' := fun W' hb => places_mk a n cap ls 9 3000 W' (h.below hb) hm (by omega) (by omega) (by omega) (by omega)
  have b0 := Int.emod_nonneg x0 (show (19 : Int) ≠ 0 by omega)
  have b1 := Int.emod_lt_of_pos x0 (show (0 : Int) < 19 by omega)
  have b2 := Int.emod_nonneg x1 (show (19 : Int) ≠ 0 by omega)
  have b3 := Int.emod_lt_of_pos x1 (show (0 : Int) < 19 by omega)
  have b4 := Int.emod_nonneg x2 (show (19 : Int) ≠ 0 by omega)
  have b5 := Int.emod_lt_of_pos x2 (show (0 : Int) < 19 by omega)
  have M0 := fun w => mod_w x0 19 w f0 (by omega) (by omega)
  have M1 := fun w => mod_w x1 19 w f1 (by omega) (by omega)
  have M2 := fun w => mod_w x2 19 w f2 (by omega) (by omega)
  generalize x0 % 19 = z0 at b0 b1 M0
  generalize x1 % 19 = z1 at b2 b3 M1
  generalize x2 % 19 = z2 at b4 b5 M2
  have HP := hide P; have HM0 := hide M0; have HM1 := hide M1; have HM2 := hide M2
  clear P M0 M1 M2 h hm f0 f1 f2
  go_enter Try.func8, Try.ntmps8
  go_wp2_with fail
  refine (HP.out _ ((Below.refl _ _).alloc (Nat.le_refl _) _)).mono ?_
  rintro e w1 ⟨v, xs, rfl, hown, hst, h2, h9, hb⟩
  have hBlk : Blk w1 W.heap.size 35 #[.int .i64 x0, .int .i64 x1, .int .i64 x2] := (Blk.new W 35 #[.int .i64 x0, .int .i64 x1, .int .i64 x2]).below hb
  have hp := hst.pos h2 h9 (by omega) (by omega)
  have hL := hown.isL (pos_FB hp)
  obtain ⟨g, gc, rfl, hg1, hg2, _⟩ := hown.form rfl (by omega)
  have hfr : Fresh (W.heap.size + 1) (.slice (some ⟨g, 0, none⟩) xs.length gc) := by have := hown.fresh; rwa [World.size_alloc] at this
  have hb' : Below W.heap.size W w1 := ((Below.refl _ _).alloc (Nat.le_refl _) _).trans (hb.mono (by simp))
  have hz1 : W.heap.size + 1 ≤ w1.heap.size := by have := hb.size; simpa using this
  have HL := hide hL; have HP' := hide hp; have HST := hide hst; have HFR := hide hfr; have HB' := hide hb'; have HBK := hide hBlk
  clear HP hL hp hown hst hfr hb hb' hg1 hBlk
  go_wp2_with fail
  go_loopw [5] (fun i wr => ∃ (k : Nat) (y0 y1 y2 : Int), i = .int .i64 k ∧ k ≤ 3 ∧ Hid (Blk wr W.heap.size 35 #[.int .i64 y0, .int .i64 y1, .int .i64 y2]) ∧ Hid (y0 = (if 0 < k then z0 - 9 else x0) ∧ y1 = (if 1 < k then z1 - 9 else x1) ∧ y2 = (if 2 < k then z2 - 9 else x2)) ∧ Hid (Only (fun j => j = W.heap.size) w1 wr)) (fun i _ => 3 - (intOf i).toNat)
  case atStart => exact ⟨0, x0, x1, x2, rfl, by omega, HBK, hide ⟨rfl, rfl, rfl⟩, hide (Only.refl _ _)⟩
  case round =>
    obtain ⟨k, y0, y1, y2, rfl, hk, hblk, hy, ho⟩ := hrel
    have c0 : wr.cell? ⟨W.heap.size, 0, none⟩ = some (.int .i64 y0) := hblk.out.cell 0
    have c1 : wr.cell? ⟨W.heap.size, 1, none⟩ = some (.int .i64 y1) := hblk.out.cell 1
    have c2 : wr.cell? ⟨W.heap.size, 2, none⟩ = some (.int .i64 y2) := hblk.out.cell 2
    have q0 := hblk.out.frozen 0
    have q1 := hblk.out.frozen 1
    have q2 := hblk.out.frozen 2
    have hlt := hblk.out.lt
    have HY0 : Hid (k = 0 → y0 = x0) := by intro h; have := hy.out.1; rw [h] at this; simpa using this
    have HY1 : Hid (k = 1 → y1 = x1) := by intro h; have := hy.out.2.1; rw [h] at this; simpa using this
    have HY2 : Hid (k = 2 → y2 = x2) := by intro h; have := hy.out.2.2; rw [h] at this; simpa using this
    by_cases hk0 : k = 0
    · subst hk0
      obtain rfl := HY0.out rfl
      simp only [Int.natCast_zero]
      go_wp2_with (go_at_call 52; refine (HM0.out _).mono ?_; rintro e w' ⟨rfl, rfl⟩)
      go_roundw
      case rel => exact ⟨1, _, _, _, rfl, by omega, hide (hblk.out.set 0 (.int .i64 (z0 - 9))), hide ⟨by simp, by have := hy.out.2.1; simpa using this, by have := hy.out.2.2; simpa using this⟩, hide (ho.out.setCell ⟨W.heap.size, 0, none⟩ _ rfl)⟩
      case measure => simp [intOf]
    by_cases hk1 : k = 1
    · subst hk1
      obtain rfl := HY1.out rfl
      simp only [Int.natCast_one]
      go_wp2_with (go_at_call 52; refine (HM1.out _).mono ?_; rintro e w' ⟨rfl, rfl⟩)
      go_roundw
      case rel => exact ⟨2, _, _, _, rfl, by omega, hide (hblk.out.set 1 (.int .i64 (z1 - 9))), hide ⟨by have := hy.out.1; simpa using this, by simp, by have := hy.out.2.2; simpa using this⟩, hide (ho.out.setCell ⟨W.heap.size, 1, none⟩ _ rfl)⟩
      case measure => simp [intOf]
    by_cases hk2 : k = 2
    · subst hk2
      obtain rfl := HY2.out rfl
      simp only [Int.cast_ofNat_Int]
      go_wp2_with (go_at_call 52; refine (HM2.out _).mono ?_; rintro e w' ⟨rfl, rfl⟩)
      go_roundw
      case rel => exact ⟨3, _, _, _, rfl, by omega, hide (hblk.out.set 2 (.int .i64 (z2 - 9))), hide ⟨by have := hy.out.1; simpa using this, by have := hy.out.2.1; simpa using this, by simp⟩, hide (ho.out.setCell ⟨W.heap.size, 2, none⟩ _ rfl)⟩
      case measure => simp [intOf]
    obtain rfl : k = 3 := by omega
    have hy' : y0 = z0 - 9 ∧ y1 = z1 - 9 ∧ y2 = z2 - 9 := by simpa using hy.out
    obtain ⟨e0, e1, e2⟩ := hy'
    have g00 : -9 ≤ y0 ∧ y0 ≤ 9 := by omega
    have g11 : -9 ≤ y1 ∧ y1 ≤ 9 := by omega
    have g22 : -9 ≤ y2 ∧ y2 ≤ 9 := by omega
    obtain ⟨g0, g0'⟩ := g00
    obtain ⟨g1, g1'⟩ := g11
    obtain ⟨g2, g2'⟩ := g22
    have hLr := IsLB.only' HL.out (Nat.le_refl _) HFR.out (by intro j hj; omega) ho.out
    have hszr := ho.out.size
    have hLr := hLr.isL hszr
    have hBr : Below W.heap.size W wr := HB'.out.trans (ho.out.below (by omega) (by intro j hj; omega))
    have HLR := hide hLr; have HBR := hide hBr
    clear HY0 HY1 HY2 hk0 hk1 hk2 hy e0 e1 e2 hLr hBr HM0 HM1 HM2 HL HB' HBK HFR q0 q1 q2 b0 b1 b2 b3 b4 b5
    simp only [Int.cast_ofNat_Int]
    go_wp2_with fail
    refine (Weights_pos _ _ _ xs _ HLR.out HP'.out).mono ?_
    rintro e w3 ⟨a3, k3, rfl, hv3, hf3, hb3⟩
    have HW3 := hide hv3; have HL3 := hide (HLR.out.below hb3); have HB3 := hide (back HBR.out hb3); have HK3 := hide (hblk.out.below hb3)
    clear hv3 hf3 hb3 HLR HBR c0 c1 c2
    go_wp2_with fail
    refine (Groups_pos _ _ _ xs _ HL3.out HP'.out).mono ?_
    rintro e w4 ⟨a4, k4, rfl, hv4, hb4⟩
    have HW4 := hide (HW3.out.below hb4); have HL4 := hide (HL3.out.below hb4); have HB4 := hide (back HB3.out hb4); have HK4 := hide (HK3.out.below hb4); have HG4 := hide hv4
    clear hv4 hb4 HW3 HL3 HB3 HK3
    have c0 : w4.cell? ⟨W.heap.size, 0, none⟩ = some (.int .i64 y0) := HK4.out.cell 0
    have c1 : w4.cell? ⟨W.heap.size, 1, none⟩ = some (.int .i64 y1) := HK4.out.cell 1
    have c2 : w4.cell? ⟨W.heap.size, 2, none⟩ = some (.int .i64 y2) := HK4.out.cell 2
    have d0 : w4.cell? ⟨g, 0, none⟩ = some (.int .i64 (at_ xs 0)) := by
      obtain ⟨_, _, hv, _, _, _, h4⟩ := HL4.out
      cases hv
      obtain ⟨_, _, e, _, hc⟩ := h4 (by intro h; rw [h] at h2; simp at h2)
      cases e
      exact hc 0 (by omega)
    have d1 : w4.cell? ⟨g, xs.length - 1, none⟩ = some (.int .i64 (at_ xs (xs.length - 1))) := by
      obtain ⟨_, _, hv, _, _, _, h4⟩ := HL4.out
      cases hv
      obtain ⟨_, _, e, _, hc⟩ := h4 (by intro h; rw [h] at h2; simp at h2)
      cases e
      have := hc (xs.length - 1) (by omega)
      rwa [Nat.zero_add] at this
    have hg4 : g < w4.heap.size := by
      obtain ⟨_, _, hv, _, _, _, h4⟩ := HL4.out
      cases hv
      obtain ⟨_, _, e, hlt, _⟩ := h4 (by intro h; rw [h] at h2; simp at h2)
      cases e; exact hlt
    have hW4 : W.heap.size < w4.heap.size := HK4.out.lt
    have hn1 : ((xs.length : Int) - 1).toNat = xs.length - 1 := by omega
    have hn2 : (0 : Int) ≤ (xs.length : Int) - 1 := by omega
    have hn3 : (0 : Int) < xs.length := by omega
    have hn4 : 0 < xs.length := by omega
    have hbx := fun i (hi : i < xs.length) => HST.out.bd i hi
    have hx72 : ∀ i, i < xs.length → 0 ≤ at_ xs i ∧ at_ xs i ≤ 72049 := fun i hi => by have := hbx i hi; omega
    have hw48 := wts_48 (M := 9000) HP'.out (by omega) HST.out.gap
    have HX72 := hide hx72; have HW48 := hide hw48
    clear hbx hx72 hw48
    have bx0 := HX72.out 0 (by omega)
    have bx1 := HX72.out (xs.length - 1) (by omega)
    obtain ⟨p0, hp0⟩ : ∃ p, at_ xs 0 = p := ⟨_, rfl⟩
    obtain ⟨p1, hp1⟩ : ∃ p, at_ xs (xs.length - 1) = p := ⟨_, rfl⟩
    rw [hp0] at d0 bx0
    rw [hp1] at d1 bx1
    obtain ⟨bx01, bx02⟩ := bx0
    obtain ⟨bx11, bx12⟩ := bx1
    obtain ⟨E, hE⟩ : ∃ E, integ y0 y1 0 p0 p1 = E := ⟨_, rfl⟩
    have hEx : ipN (wts xs) (polyL y0 y1 0 xs) xs.length = E := by rw [whole_exact HP'.out y0 y1 0 (.inl rfl), hp0, hp1, hE]
    have HP0 := hide hp0; have HP1 := hide hp1
    have G1 : ∀ W', Below w4.heap.size w4 W' → Calls Try.prog 53 #[.slice a3 xs.length k3, .slice (some ⟨g, 0, none⟩) xs.length gc, .agg #[.int .i64 y0, .int .i64 y1, .int .i64 0]] W' fun e w' => e = .returned (.int .i64 E) ∧ Below W'.heap.size W' w' := fun W' hb => by
      have := added_w _ _ (wts xs) xs y0 y1 0 W' (HW4.out.below hb) (HL4.out.below hb) (wts_len xs) h9 HW48.out HX72.out g0 g0' g1 g1' (by omega) (by omega)
      rwa [hEx] at this
    have G2 : ∀ W' : World, Calls Try.prog 54 #[.agg #[.int .i64 y0, .int .i64 y1, .int .i64 0], .int .i64 p0, .int .i64 p1] W' fun e w' => e = .returned (.int .i64 E) ∧ Below W'.heap.size W' w' := fun W' => by
      have := integral_w y0 y1 0 p0 p1 W' g0 g0' g1 g1' (by omega) (by omega) bx01 (by omega) bx11 (by omega)
      rwa [hE] at this
    have HG1 := hide G1; have HG2 := hide G2
    clear G1 G2 hE hEx hp0 hp1
    have hEE : (E != E) = false := by simp
    go_wp2_with fail
    obtain ⟨w5, hw5⟩ : ∃ w5, w4.alloc (.cells #[.int .i64 y0, .int .i64 y1, .int .i64 0] 35) = w5 := ⟨_, rfl⟩
    have l0 : w5.cell? ⟨w4.heap.size, 0, none⟩ = some (.int .i64 y0) := by rw [← hw5]; simp
    have l1 : w5.cell? ⟨w4.heap.size, 1, none⟩ = some (.int .i64 y1) := by rw [← hw5]; simp
    have l2 : w5.cell? ⟨w4.heap.size, 2, none⟩ = some (.int .i64 0) := by rw [← hw5]; simp
    have k5 : Below w4.heap.size w4 w5 := by rw [← hw5]; exact (Below.refl _ _).alloc (Nat.le_refl _) _
    have z5 : w4.heap.size < w5.heap.size := by rw [← hw5]; simp
    rw [hw5]
    clear hw5 c0 c1 c2 d0 d1
    have kp : ∀ V V' : World, (V.cell? ⟨w4.heap.size, 0, none⟩ = some (.int .i64 y0) ∧ V.cell? ⟨w4.heap.size, 1, none⟩ = some (.int .i64 y1) ∧ V.cell? ⟨w4.heap.size, 2, none⟩ = some (.int .i64 0) ∧ Below w4.heap.size w4 V ∧ w4.heap.size < V.heap.size) → Below V.heap.size V V' →
      (V'.cell? ⟨w4.heap.size, 0, none⟩ = some (.int .i64 y0) ∧ V'.cell? ⟨w4.heap.size, 1, none⟩ = some (.int .i64 y1) ∧ V'.cell? ⟨w4.heap.size, 2, none⟩ = some (.int .i64 0) ∧ Below w4.heap.size w4 V' ∧ w4.heap.size < V'.heap.size) := by
      intro V V' ⟨q0, q1, q2, q3, q4⟩ hb
      exact ⟨(hb.cell (p := ⟨w4.heap.size, 0, none⟩) q4).trans q0, (hb.cell (p := ⟨w4.heap.size, 1, none⟩) q4).trans q1, (hb.cell (p := ⟨w4.heap.size, 2, none⟩) q4).trans q2, back q3 hb, Nat.lt_of_lt_of_le q4 hb.size⟩
    have st : (w5.cell? ⟨w4.heap.size, 0, none⟩ = some (.int .i64 y0) ∧ w5.cell? ⟨w4.heap.size, 1, none⟩ = some (.int .i64 y1) ∧ w5.cell? ⟨w4.heap.size, 2, none⟩ = some (.int .i64 0) ∧ Below w4.heap.size w4 w5 ∧ w4.heap.size < w5.heap.size) := ⟨l0, l1, l2, k5, z5⟩
    have KP := hide kp; have ST := hide st
    clear kp st l0 l1 l2 k5 z5
    go_region_held3 (fun V => V.cell? ⟨w4.heap.size, 0, none⟩ = some (.int .i64 y0) ∧ V.cell? ⟨w4.heap.size, 1, none⟩ = some (.int .i64 y1) ∧ V.cell? ⟨w4.heap.size, 2, none⟩ = some (.int .i64 0) ∧ Below w4.heap.size w4 V ∧ w4.heap.size < V.heap.size) (first | exact ST.out | (refine KP.out _ _ (by assumption) ?_; first | assumption | exact below_drewN (Below.refl _ _) 1) | assumption)
      (first
        | (go_at_call 53; refine (HG1.out _ (by first | assumption | exact below_drewN ST.out.2.2.2.1 1 | exact (show _ ∧ _ ∧ _ ∧ Below w4.heap.size w4 _ ∧ _ by assumption).2.2.2.1)).mono ?_; rintro e w' ⟨rfl, hb⟩)
        | (go_at_call 54; refine (HG2.out _).mono ?_; rintro e w' ⟨rfl, hb⟩))
    have hS : Below w4.heap.size w4 w' := by first | exact keep.2.2.2.1 | exact (show _ ∧ _ ∧ _ ∧ Below w4.heap.size w4 w' ∧ _ by assumption).2.2.2.1
    obtain ⟨w6, rfl⟩ : ∃ w6 : World, w6 = w' := ⟨_, rfl⟩
    have HW6 := hide (HW4.out.below hS); have HL6 := hide (HL4.out.below hS); have HB6 := hide (back HB4.out hS); have HK6 := hide (HK4.out.below hS)
    have HG6 := hide (HG4.out.keep (w' := w6) fun p hp => hS.cell hp)
    have hz6 := hS.size
    clear hS KP ST HG1 HG2 HW4 HL4 HB4 HK4 HG4 ho hblk
    obtain ⟨b4, o4, hgv⟩ : ∃ b o, a4 = some ⟨b, o, none⟩ ∧ b < w4.heap.size ∧ ∀ i, i < (grs xs).length → w6.cell? ⟨b, o + i * 2, none⟩ = some (.int .i64 ((grs xs)[i]?.getD (0, 0)).1) ∧ w6.cell? ⟨b, o + i * 2 + 1, none⟩ = some (.int .i64 ((grs xs)[i]?.getD (0, 0)).2) := by
      obtain ⟨_, _, hv, _, _, h4⟩ := HG6.out
      cases hv
      refine h4 ?_
      have := grsFrom_step xs 0 (by omega)
      unfold grs; rw [this]; simp
    obtain ⟨rfl, hb4l, hgc⟩ := hgv
    have HGC := hide hgc
    clear hgc HG6
    go_wp2_with fail
    have hgl9 : (grs xs).length ≤ 9 := by have := grF_len xs xs.length 0; unfold grs grsFrom; omega
    go_loopw [13, 14, 15] (fun al at' i wr => ∃ (k a : Nat) (A : Bool) (gs : List (Nat × Nat)), al = .bool A ∧ at' = .int .i64 a ∧ i = .int .i64 k ∧ k ≤ (grs xs).length ∧ a < xs.length ∧ Hid (grs xs = gs ++ grsFrom xs a) ∧ Hid (gs.length = k) ∧ Hid (A = true ↔ ∀ g ∈ gs, g.2 = 2) ∧ Hid (Below w6.heap.size w6 wr)) (fun _ _ i _ => (grs xs).length - (intOf i).toNat)
    case atStart => exact ⟨0, 0, true, [], rfl, rfl, rfl, Nat.zero_le _, by omega, hide (by simp [grs]), hide rfl, hide (by simp), hide (Below.refl _ _)⟩
    case round =>
      obtain ⟨k, a, A, gs, rfl, rfl, rfl, hkl, hax, hgr, hgl, hA, hbel⟩ := hrel
      obtain ⟨hyes, hno⟩ := round_grs hgr.out hgl.out
      have hzr := hbel.out.size
      by_cases hlk : k < (grs xs).length
      · obtain ⟨ha1, hgk, hnext, hmlt⟩ := hyes hlk
        have cc := HGC.out k hlk
        rw [hgk] at cc
        simp only at cc
        have cf : wr.cell? ⟨b4, o4 + k * 2, none⟩ = some (.int .i64 (a : Nat)) := (hbel.out.cell (p := ⟨b4, o4 + k * 2, none⟩) (by show b4 < _; omega)).trans cc.1
        have cm : wr.cell? ⟨b4, o4 + k * 2 + 1, none⟩ = some (.int .i64 (many xs a : Nat)) := (hbel.out.cell (p := ⟨b4, o4 + k * 2 + 1, none⟩) (by show b4 < _; omega)).trans cc.2
        have cm' : wr.cell? ⟨b4, o4 + (k * 2 + 1), none⟩ = some (.int .i64 (many xs a : Nat)) := cm
        have hgcap : a < gc ∧ a + many xs a + 1 ≤ gc ∧ gc ≤ 9223372036854775807 := by
          obtain ⟨_, _, hv, h1, h3, _⟩ := HL6.out
          cases hv
          exact ⟨by omega, by omega, by unfold maxLen at h3; exact h3⟩
        obtain ⟨hgc1, hgc2, hgc3⟩ := hgcap
        have HN := hide hnext
        clear cc hgk hnext hyes hno
        have hlk' : (k : Int) < (grs xs).length := by omega
        have HLK := hide hlk
        have hmo := many_or xs a
        have hb4r : b4 < wr.heap.size := by omega
        have hgr' : g < wr.heap.size := by omega
        obtain ⟨hpl, hpp, hplim, hpat⟩ := part_facts HST.out h2 h9 (a := a) (m := many xs a) (by omega) hmlt
        obtain ⟨E2, hE2⟩ : ∃ E2, integ y0 y1 y2 (at_ ((xs.drop a).take (many xs a + 1)) 0) (at_ ((xs.drop a).take (many xs a + 1)) 2) = E2 := ⟨_, rfl⟩
        have hEx2 : many xs a = 2 → ipN (wts ((xs.drop a).take (many xs a + 1))) (polyL y0 y1 y2 ((xs.drop a).take (many xs a + 1))) (many xs a + 1) = E2 := by
          intro h; rw [← hE2, h]; exact part_exact HST.out h2 h9 h y0 y1 y2
        obtain ⟨m, hm⟩ : ∃ m, many xs a = m := ⟨_, rfl⟩
        rw [hm] at hmo hpl hpp hplim hpat hE2 hEx2 cm cm' hmlt hgc2
        obtain ⟨ps, hps⟩ : ∃ ps, (xs.drop a).take (m + 1) = ps := ⟨_, rfl⟩
        rw [hps] at hpl hpp hplim hpat hE2 hEx2
        have hpart := IsLB.part (HL6.out.below hbel.out) (i := a) (m := m + 1) (c := gc - a) (by omega) (by omega) (by omega) (by unfold maxLen; omega)
        rw [hps] at hpart
        have HM := hide hm; have HPS := hide hps; have HPL := hide hpl; have HPP := hide hpp; have HPLIM := hide hplim; have HPAT := hide hpat; have HE2 := hide hE2; have HEX2 := hide hEx2; have HPART := hide hpart
        clear hm hps hpl hpp hplim hpat hE2 hEx2 hpart
        have hmm : 1 ≤ m ∧ m ≤ 2 := by omega
        obtain ⟨hm1, hm2⟩ := hmm
        have ht1 : ((a : Int) + m + 1).toNat = a + m + 1 := by omega
        have ht2 : a + m + 1 - a = m + 1 := by omega
        have hcs : ∀ i, i < m + 1 → (wr.alloc (.cells #[] 3)).cell? ⟨g, a + i, none⟩ = some (.int .i64 (at_ ps i)) := by
          intro i hi
          obtain ⟨_, _, hv, _, _, _, h4⟩ := HPART.out
          obtain ⟨rfl, hln, rfl⟩ := Value.slice.inj hv
          obtain ⟨_, _, e, hlt, hc⟩ := h4 (by intro h; rw [h] at hln; simp at hln)
          cases e
          have := hc i (by rw [← hln]; exact hi)
          rw [Nat.zero_add] at this
          rw [((Below.refl wr.heap.size wr).alloc (Nat.le_refl _) _).cell (p := ⟨g, a + i, none⟩) hgr']
          exact this
        have HCS := hide hcs; clear hcs
        have hsA : (wr.alloc (.cells #[] 3)).heap.size = wr.heap.size + 1 := World.size_alloc _ _
        have HSA := hide hsA; clear hsA
        go_wp2_with (at_builtin; refine cat_w rfl (.tmp 116) (.tmp 127) rfl wr.heap.size (wr.alloc (.cells #[] 3)) _ [] ps g a (m + 1) _ (Own.none' wr (Nat.le_refl _)) rfl rfl HPL.out HCS.out (by simp; omega) (by rw [HSA.out]; omega) ?_; intro v' w7 ho7 hg7 _; have hB7 := ((Below.refl wr.heap.size wr).alloc (Nat.le_refl _) (.cells #[] 3)).trans (grown_below (Own.none' wr (Nat.le_refl _)) (by rw [HSA.out]; omega) hg7); rw [List.nil_append] at ho7; have hL7 := ho7.isL (pos_FB HPP.out); obtain ⟨pb, pc, rfl, hpb1, hpb2, hpc⟩ := ho7.form HPL.out (by omega); have HL7 := hide hL7; have HB7 := hide hB7; have HPC := hide hpc; clear ho7 hg7 hL7 hB7 hpc)
        have WP : ∀ (a' : Option Addr) (c' : Nat) (V : World), IsL V (.slice a' (m + 1) c') ps → Calls Try.prog 35 #[.slice a' (m + 1) c'] V fun e w' => ∃ a'' c'', e = .returned (.tuple #[.slice a'' (m + 1) c'', .int .i64 0]) ∧ IsL w' (.slice a'' (m + 1) c'') (wts ps) ∧ Below V.heap.size V w' := by
          intro a' c' V hV
          refine (Weights_pos a' (m + 1) c' ps V hV HPP.out).mono ?_
          rintro e w' ⟨a'', c'', he, h1, _, h3⟩
          rw [HPL.out] at he h1
          exact ⟨a'', c'', he, h1, h3⟩
        have HWP := hide WP; clear WP
        refine (HWP.out _ _ _ HL7.out).mono ?_
        rintro e w8 ⟨a8, k8, rfl, hv8, hb8⟩
        have hz7 := HB7.out.size
        have hz8 := hb8.size
        have HV8 := hide hv8; have HL8 := hide (HL7.out.below hb8); have HB8 := hide (hbel.out.trans ((back HB7.out hb8).mono hzr))
        have c0 : w8.cell? ⟨W.heap.size, 0, none⟩ = some (.int .i64 y0) := (HK6.out.below HB8.out).cell 0
        have c1 : w8.cell? ⟨W.heap.size, 1, none⟩ = some (.int .i64 y1) := (HK6.out.below HB8.out).cell 1
        have c2 : w8.cell? ⟨W.heap.size, 2, none⟩ = some (.int .i64 y2) := (HK6.out.below HB8.out).cell 2
        have hW8 : W.heap.size < w8.heap.size := (HK6.out.below HB8.out).lt
        have r0 : w8.cell? ⟨pb, 0, none⟩ = some (.int .i64 (at_ ps 0)) := (hb8.cell (p := ⟨pb, 0, none⟩) hpb2).trans (HPC.out 0 (by omega))
        have m8 : w8.cell? ⟨b4, o4 + k * 2 + 1, none⟩ = some (.int .i64 (m : Nat)) := ((back HB7.out hb8).cell (p := ⟨b4, o4 + k * 2 + 1, none⟩) hb4r).trans cm
        have m8' : w8.cell? ⟨b4, o4 + (k * 2 + 1), none⟩ = some (.int .i64 (m : Nat)) := m8
        have hb48 : b4 < w8.heap.size := by omega
        have hpb8 : pb < w8.heap.size := by omega
        by_cases h2m : m = 2
        · have r2 : w8.cell? ⟨pb, 2, none⟩ = some (.int .i64 (at_ ps 2)) := (hb8.cell (p := ⟨pb, 2, none⟩) hpb2).trans (HPC.out 2 (by omega))
          have t0 := HPAT.out 0 (by omega)
          have t2 := HPAT.out 2 (by omega)
          have hx8 : ∀ i, i < ps.length → 0 ≤ at_ ps i ∧ at_ ps i ≤ 72049 := fun i hi => (HPAT.out i (by rw [← HPL.out]; exact hi)).2
          have G1 : ∀ V, Below w8.heap.size w8 V → Calls Try.prog 53 #[.slice a8 (m + 1) k8, .slice (some ⟨pb, 0, none⟩) (m + 1) pc, .agg #[.int .i64 y0, .int .i64 y1, .int .i64 y2]] V fun e w' => e = .returned (.int .i64 E2) ∧ Below V.heap.size V w' := fun V hb => by
            have := added_w _ _ (wts ps) ps y0 y1 y2 V (HV8.out.below hb) (HL8.out.below hb) (wts_len ps) (by rw [HPL.out]; omega) HPLIM.out hx8 g0 g0' g1 g1' g2 g2'
            rw [HPL.out, HEX2.out h2m] at this
            exact this
          have G2 : ∀ V : World, Calls Try.prog 54 #[.agg #[.int .i64 y0, .int .i64 y1, .int .i64 y2], .int .i64 (at_ ps 0), .int .i64 (at_ ps 2)] V fun e w' => e = .returned (.int .i64 E2) ∧ Below V.heap.size V w' := fun V => by
            have := integral_w y0 y1 y2 (at_ ps 0) (at_ ps 2) V g0 g0' g1 g1' g2 g2' t0.2.1 (by omega) t2.2.1 (by omega)
            rwa [HE2.out] at this
          obtain ⟨q0, hq0⟩ : ∃ q, at_ ps 0 = q := ⟨_, rfl⟩
          obtain ⟨q2, hq2⟩ : ∃ q, at_ ps 2 = q := ⟨_, rfl⟩
          rw [hq0] at r0 G2
          rw [hq2] at r2 G2
          have HG1 := hide G1; have HG2 := hide G2
          have hmE : ((m : Int) == 2) = true := by simp; omega
          have hm2' : (2 : Int) < (m : Int) + 1 := by omega
          have hm3' : (0 : Int) < (m : Int) + 1 := by omega
          have hEE2 : (E2 != E2) = false := by simp
          clear G1 G2 hx8 t0 t2 hq0 hq2 h2m hb8 hv8
          have mk8 : ∀ V, Below w8.heap.size w8 V → (V.cell? ⟨b4, o4 + k * 2 + 1, none⟩ = some (.int .i64 (m : Nat)) ∧ V.cell? ⟨b4, o4 + (k * 2 + 1), none⟩ = some (.int .i64 (m : Nat)) ∧ V.cell? ⟨W.heap.size, 0, none⟩ = some (.int .i64 y0) ∧ V.cell? ⟨W.heap.size, 1, none⟩ = some (.int .i64 y1) ∧ V.cell? ⟨W.heap.size, 2, none⟩ = some (.int .i64 y2) ∧ V.cell? ⟨pb, 0, none⟩ = some (.int .i64 q0) ∧ V.cell? ⟨pb, 2, none⟩ = some (.int .i64 q2) ∧ Below w8.heap.size w8 V) := fun V hb =>
            ⟨(hb.cell (p := ⟨b4, o4 + k * 2 + 1, none⟩) hb48).trans m8, (hb.cell (p := ⟨b4, o4 + (k * 2 + 1), none⟩) hb48).trans m8', (hb.cell (p := ⟨W.heap.size, 0, none⟩) hW8).trans c0, (hb.cell (p := ⟨W.heap.size, 1, none⟩) hW8).trans c1, (hb.cell (p := ⟨W.heap.size, 2, none⟩) hW8).trans c2, (hb.cell (p := ⟨pb, 0, none⟩) hpb8).trans r0, (hb.cell (p := ⟨pb, 2, none⟩) hpb8).trans r2, hb⟩
          have kp : ∀ V V' : World, (V.cell? ⟨b4, o4 + k * 2 + 1, none⟩ = some (.int .i64 (m : Nat)) ∧ V.cell? ⟨b4, o4 + (k * 2 + 1), none⟩ = some (.int .i64 (m : Nat)) ∧ V.cell? ⟨W.heap.size, 0, none⟩ = some (.int .i64 y0) ∧ V.cell? ⟨W.heap.size, 1, none⟩ = some (.int .i64 y1) ∧ V.cell? ⟨W.heap.size, 2, none⟩ = some (.int .i64 y2) ∧ V.cell? ⟨pb, 0, none⟩ = some (.int .i64 q0) ∧ V.cell? ⟨pb, 2, none⟩ = some (.int .i64 q2) ∧ Below w8.heap.size w8 V) → Below V.heap.size V V' → (V'.cell? ⟨b4, o4 + k * 2 + 1, none⟩ = some (.int .i64 (m : Nat)) ∧ V'.cell? ⟨b4, o4 + (k * 2 + 1), none⟩ = some (.int .i64 (m : Nat)) ∧ V'.cell? ⟨W.heap.size, 0, none⟩ = some (.int .i64 y0) ∧ V'.cell? ⟨W.heap.size, 1, none⟩ = some (.int .i64 y1) ∧ V'.cell? ⟨W.heap.size, 2, none⟩ = some (.int .i64 y2) ∧ V'.cell? ⟨pb, 0, none⟩ = some (.int .i64 q0) ∧ V'.cell? ⟨pb, 2, none⟩ = some (.int .i64 q2) ∧ Below w8.heap.size w8 V') := fun V V' h hb => mk8 V' (back h.2.2.2.2.2.2.2 hb)
          have KP := hide kp; have ST := hide (mk8 w8 (Below.refl _ _))
          have MK8 := hide mk8
          clear kp mk8
          go_wp2_with fail
          clear c0 c1 c2 r0 r2 m8 m8'
          go_region_held3 (fun V => V.cell? ⟨b4, o4 + k * 2 + 1, none⟩ = some (.int .i64 (m : Nat)) ∧ V.cell? ⟨b4, o4 + (k * 2 + 1), none⟩ = some (.int .i64 (m : Nat)) ∧ V.cell? ⟨W.heap.size, 0, none⟩ = some (.int .i64 y0) ∧ V.cell? ⟨W.heap.size, 1, none⟩ = some (.int .i64 y1) ∧ V.cell? ⟨W.heap.size, 2, none⟩ = some (.int .i64 y2) ∧ V.cell? ⟨pb, 0, none⟩ = some (.int .i64 q0) ∧ V.cell? ⟨pb, 2, none⟩ = some (.int .i64 q2) ∧ Below w8.heap.size w8 V) (first | exact ST.out | (refine KP.out _ _ (by assumption) ?_; first | assumption | exact below_drewN (Below.refl _ _) 1) | assumption)
            (first
              | (go_at_call 53; refine (HG1.out _ (by first | assumption | exact below_drewN (Below.refl _ _) 1 | exact (show _ ∧ _ ∧ _ ∧ _ ∧ _ ∧ _ ∧ _ ∧ Below w8.heap.size w8 _ by assumption).2.2.2.2.2.2.2)).mono ?_; rintro e w' ⟨rfl, hb⟩)
              | (go_at_call 54; refine (HG2.out _).mono ?_; rintro e w' ⟨rfl, hb⟩))
          have hS : Below w8.heap.size w8 w' := by first | exact keep.2.2.2.2.2.2.2 | exact (show _ ∧ _ ∧ _ ∧ _ ∧ _ ∧ _ ∧ _ ∧ Below w8.heap.size w8 w' by assumption).2.2.2.2.2.2.2
          obtain ⟨m9, m9', _⟩ := MK8.out _ hS
          obtain ⟨w9, rfl⟩ : ∃ w9 : World, w9 = w' := ⟨_, rfl⟩
          have HB9 := hide (HB8.out.trans (hS.mono (by omega)))
          clear hS KP ST MK8 HG1 HG2
          have hnx : grs xs = (gs ++ [(a, m)]) ++ grsFrom xs (a + m) := by have := HN.out; rw [HM.out] at this; exact this
          have HNX := hide hnx
          have hgl' : (gs ++ [(a, m)]).length = k + 1 := by rw [List.length_append, hgl.out]; rfl
          have HGL := hide hgl'
          have hAi : A = true ↔ ∀ g ∈ gs ++ [(a, m)], g.2 = 2 := by
            rw [hA.out]; constructor
            · intro h g hg; rcases List.mem_append.1 hg with hg | hg
              · exact h g hg
              · simp at hg; subst hg; simp only; have : (m : Int) = 2 := by simpa using hmE
                omega
            · intro h g hg; exact h g (List.mem_append_left _ hg)
          have HAI := hide hAi
          clear hnx hgl' hAi hgl hA hgr HN
          cases A with
          | true =>
            go_wp2
            go_roundw
            case rel => exact ⟨k + 1, a + m, true, _, rfl, by go_num, by go_num, by have := HLK.out; omega, by omega, HNX, HGL, HAI, HB9⟩
            case measure => have := HLK.out; simp [intOf]; omega
          | false =>
            go_wp2
            go_roundw
            case rel => exact ⟨k + 1, a + m, false, _, rfl, by go_num, by go_num, by have := HLK.out; omega, by omega, HNX, HGL, HAI, HB9⟩
            case measure => have := HLK.out; simp [intOf]; omega
        · have hmE : ((m : Int) == 2) = false := by simp; omega
          have hnx : grs xs = (gs ++ [(a, m)]) ++ grsFrom xs (a + m) := by have := HN.out; rw [HM.out] at this; exact this
          have HNX := hide hnx
          have hgl' : (gs ++ [(a, m)]).length = k + 1 := by rw [List.length_append, hgl.out]; rfl
          have HGL := hide hgl'
          have hAi : false = true ↔ ∀ g ∈ gs ++ [(a, m)], g.2 = 2 := by
            constructor
            · intro h; cases h
            · intro h; exact absurd (h (a, m) (by simp)) h2m
          have HAI := hide hAi
          clear hnx hgl' hAi hgl hgr HN h2m hb8 hv8 r0
          cases A with
          | true =>
            go_wp2_with fail
            go_quiet (fail)
            go_wp2
            go_roundw
            case rel => exact ⟨k + 1, a + m, false, _, rfl, by go_num, by go_num, by have := HLK.out; omega, by omega, HNX, HGL, HAI, hide (below_drewN HB8.out _)⟩
            case measure => have := HLK.out; simp [intOf]; omega
          | false =>
            go_wp2_with fail
            go_quiet (fail)
            go_wp2
            go_roundw
            case rel => exact ⟨k + 1, a + m, false, _, rfl, by go_num, by go_num, by have := HLK.out; omega, by omega, HNX, HGL, HAI, hide (below_drewN HB8.out _)⟩
            case measure => have := HLK.out; simp [intOf]; omega
      · obtain ⟨hn1, hn2⟩ := hno hlk
        have hae : a = xs.length - 1 := by omega
        subst hae
        have hlk' : ¬ ((k : Int) < (grs xs).length) := by omega
        have hlm : (((xs.length - 1 : Nat) : Int) == (xs.length : Int) - 1) = true := by simp; omega
        have hwr : IntKind.i64.wrap ((xs.length : Int) - 1) = (xs.length : Int) - 1 := IntWalk.i64_in _ (by omega)
        have cr : ∀ V, Below w6.heap.size w6 V → V.cell? ⟨W.heap.size, 0, none⟩ = some (.int .i64 y0) ∧ V.cell? ⟨W.heap.size, 1, none⟩ = some (.int .i64 y1) ∧ V.cell? ⟨W.heap.size, 2, none⟩ = some (.int .i64 y2) ∧ Below w6.heap.size w6 V := fun V hb => ⟨(HK6.out.below hb).cell 0, (HK6.out.below hb).cell 1, (HK6.out.below hb).cell 2, hb⟩
        have CR := hide cr
        have c0 := (cr wr hbel.out).1
        have c1 := (cr wr hbel.out).2.1
        have c2 := (cr wr hbel.out).2.2.1
        clear cr hyes hno
        cases A with
        | true =>
          have hall : ∀ g ∈ grs xs, g.2 = 2 := by rw [hn2]; exact hA.out.1 rfl
          obtain ⟨E3, hE3⟩ : ∃ E3, integ y0 y1 y2 p0 p1 = E3 := ⟨_, rfl⟩
          have hEx : ipN (wts xs) (polyL y0 y1 y2 xs) xs.length = E3 := by rw [whole_exact HP'.out y0 y1 y2 (.inr hall), HP0.out, HP1.out, hE3]
          have G1 : ∀ V, Below w6.heap.size w6 V → Calls Try.prog 53 #[.slice a3 xs.length k3, .slice (some ⟨g, 0, none⟩) xs.length gc, .agg #[.int .i64 y0, .int .i64 y1, .int .i64 y2]] V fun e w' => e = .returned (.int .i64 E3) ∧ Below V.heap.size V w' := fun V hb => by
            have := added_w _ _ (wts xs) xs y0 y1 y2 V (HW6.out.below hb) (HL6.out.below hb) (wts_len xs) h9 HW48.out HX72.out g0 g0' g1 g1' g2 g2'
            rwa [hEx] at this
          have G2 : ∀ V : World, Calls Try.prog 54 #[.agg #[.int .i64 y0, .int .i64 y1, .int .i64 y2], .int .i64 p0, .int .i64 p1] V fun e w' => e = .returned (.int .i64 E3) ∧ Below V.heap.size V w' := fun V => by
            have := integral_w y0 y1 y2 p0 p1 V g0 g0' g1 g1' g2 g2' bx01 (by omega) bx11 (by omega)
            rwa [hE3] at this
          have HG1 := hide G1; have HG2 := hide G2
          have hEE3 : (E3 == E3) = true := by simp
          clear G1 G2 hE3 hEx hall hn1 hn2 hA hgr hgl
          have kp : ∀ V V' : World, (V.cell? ⟨W.heap.size, 0, none⟩ = some (.int .i64 y0) ∧ V.cell? ⟨W.heap.size, 1, none⟩ = some (.int .i64 y1) ∧ V.cell? ⟨W.heap.size, 2, none⟩ = some (.int .i64 y2) ∧ Below w6.heap.size w6 V) → Below V.heap.size V V' → (V'.cell? ⟨W.heap.size, 0, none⟩ = some (.int .i64 y0) ∧ V'.cell? ⟨W.heap.size, 1, none⟩ = some (.int .i64 y1) ∧ V'.cell? ⟨W.heap.size, 2, none⟩ = some (.int .i64 y2) ∧ Below w6.heap.size w6 V') := fun V V' h hb => CR.out V' (back h.2.2.2 hb)
          have KP := hide kp; have ST := hide (CR.out wr hbel.out)
          clear kp
          go_wp2_with fail
          clear c0 c1 c2
          go_region_held3 (fun V => V.cell? ⟨W.heap.size, 0, none⟩ = some (.int .i64 y0) ∧ V.cell? ⟨W.heap.size, 1, none⟩ = some (.int .i64 y1) ∧ V.cell? ⟨W.heap.size, 2, none⟩ = some (.int .i64 y2) ∧ Below w6.heap.size w6 V) (first | exact ST.out | (refine KP.out _ _ (by assumption) ?_; first | assumption | exact below_drewN (Below.refl _ _) 1) | assumption)
            (first
              | (go_at_call 53; refine (HG1.out _ (by first | assumption | exact below_drewN ST.out.2.2.2 1 | exact (show _ ∧ _ ∧ _ ∧ Below w6.heap.size w6 _ by assumption).2.2.2)).mono ?_; rintro e w' ⟨rfl, hb⟩)
              | (go_at_call 54; refine (HG2.out _).mono ?_; rintro e w' ⟨rfl, hb⟩)
              | (go_at_call 32; refine (sane_w _).mono ?_; rintro e w' ⟨rfl, hb⟩))
          have hS : Below w6.heap.size w6 w' := by first | exact keep.2.2.2 | exact (show _ ∧ _ ∧ _ ∧ Below w6.heap.size w6 w' by assumption).2.2.2
          go_wp2
          go_ret
          exact ⟨rfl, back HB6.out hS⟩
        | false =>
          have HBL := hbel
          clear c0 c1 c2 hn1 hn2 hA hgr hgl CR HGC HK6 HL6 HP' HP0 HP1 HST HW48 HW6 HX72 bx01 bx02 bx11 bx12 g0 g0' g1 g1' g2 g2' h2 hEE hLr hW4 hax hb hb4l hg2 hg4 hgl9 hk hkl hlk hlt hszr hz1 hz6 hzr
          go_wp2_with fail
          refine wp_region_still_tail 21 (by kernel_rfl) (by kernel_rfl) ?_
          simp only [List.take_succ_cons, List.take_zero, List.drop_succ_cons, List.drop_zero]
          refine WS.out ?_
          iterate 21 (refine WS.step (fun K hK => ?_); have HK := hide hK; clear hK; go_simp; refine HK.out _ ?_; clear HK K)
          refine WS.nil ?_
          go_wp2_with (go_at_call 32; refine (sane_w _).mono ?_; rintro e w' ⟨rfl, hb⟩)
          go_ret
          exact ⟨rfl, back (back HB6.out (below_drewN HBL.out 1)) hb⟩
end Go.Proofs.Ytbkdffjdeplcgaa
