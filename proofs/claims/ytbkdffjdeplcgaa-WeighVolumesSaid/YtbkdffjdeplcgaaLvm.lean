import Derived.Test.YtbkdffjdeplcgaaVmm
import Derived.Test.YtbkdffjdeplcgaaTbl
import Derived.Test.YtbkdffjdeplcgaaLsc
import Derived.Deep.RegionHeld3
import Derived.StillTailTactics
import Derived.IntWalk
set_option linter.unusedVariables false
set_option linter.unusedSimpArgs false
namespace Go.Proofs.Ytbkdffjdeplcgaa
open Go.RowKit

/-- The table's block, its three slices, and what they read as. -/
structure TbW (W : World) (tb : Nat) (a1 : Option Addr) (c1 : Nat) (a2 : Option Addr) (c2 : Nat) (a3 : Option Addr) (c3 : Nat) (vs : List Value) (S T : List Int) (H : List (List Int)) : Prop where
  blk : Blk W tb 70 #[.slice a1 S.length c1, .slice a2 T.length c2, .slice a3 S.length c3]
  l1 : IsL W (.slice a1 S.length c1) S
  l2 : IsL W (.slice a2 T.length c2) T
  l3 : IsRB W.heap.size W (.slice a3 S.length c3) vs H
theorem TbW.below {W W' : World} {tb : Nat} {a1 : Option Addr} {c1 : Nat} {a2 : Option Addr} {c2 : Nat} {a3 : Option Addr} {c3 : Nat} {vs : List Value} {S T : List Int} {H : List (List Int)} (h : TbW W tb a1 c1 a2 c2 a3 c3 vs S T H) (hb : Below W.heap.size W W') : TbW W' tb a1 c1 a2 c2 a3 c3 vs S T H :=
  ⟨h.blk.below hb, h.l1.below hb, h.l2.below hb, (h.l3.below hb).more hb.size⟩

/-- A row of the table, as a slice. -/
theorem TbW.rowS {W : World} {tb : Nat} {a1 : Option Addr} {c1 : Nat} {a2 : Option Addr} {c2 : Nat} {a3 : Option Addr} {c3 : Nat} {vs : List Value} {S T : List Int} {H : List (List Int)} (h : TbW W tb a1 c1 a2 c2 a3 c3 vs S T H) (ht : Tb S T H) :
    ∃ hb ho, a3 = some ⟨hb, ho, none⟩ ∧ hb < W.heap.size ∧ ∀ k, k < S.length → ∃ rb rc ro, W.cell? ⟨hb, ho + k, none⟩ = some (.slice (some ⟨rb, ro, none⟩) T.length rc) ∧ IsL W (.slice (some ⟨rb, ro, none⟩) T.length rc) (rowAt H k) ∧ rb < W.heap.size ∧ ∀ i, i < T.length → W.cell? ⟨rb, ro + i, none⟩ = some (.int .i64 (at_ (rowAt H k) i)) := by
  obtain ⟨h0, h1, a, cap, hv, h2, h3, h4⟩ := h.l3
  obtain ⟨rfl, _, rfl⟩ := Value.slice.inj hv
  obtain ⟨b, off, rfl, hlt, hc⟩ := h4 (by intro e; have := ht.hl; rw [e] at this; have := ht.s2; simp at *; omega)
  refine ⟨b, off, rfl, hlt, fun k hk => ?_⟩
  have hk' : k < H.length := by rw [ht.hl]; exact hk
  have hr := h1 k hk'
  have hc' := hc k hk'
  obtain ⟨ra, rc, hrv, r1, r2, r3, r4⟩ := id hr
  have hrl : (H[k]?.getD []).length = T.length := (ht.row k hk).1
  rw [hrl] at hrv
  obtain ⟨rb, ro, rfl, rlt, rcell⟩ := r4 (by intro e; rw [e] at hrl; have := ht.t2; simp at hrl; omega)
  rw [hrv] at hc' hr
  exact ⟨rb, rc, ro, hc', hr, rlt, fun i hi => rcell i (by rw [hrl]; exact hi)⟩

theorem Pos.first_lt {xs : List Int} (hp : Pos xs) : ∀ i, 0 < i → i < xs.length → at_ xs 0 < at_ xs i := by
  intro i
  induction i with
  | zero => intro h; omega
  | succ i ih =>
    intro _ hi
    have h := hp.up i hi
    by_cases h0 : i = 0
    · subst h0; exact h
    · have := ih (by omega) (by omega); omega

theorem cen_same {S T : List Int} {H : List (List Int)} (ht : Tb S T H) {c : Int} (h0 : 1 ≤ c) (h1 : c ≤ 20000) {p q : Int} (h : mk (at_ S 0 + at_ S (S.length - 1)) 2 = (p, q, 0)) : cenF S (List.replicate S.length c) = (p, q, 0) := by
  have hp := ht.pS
  have ho : ordE S (List.replicate S.length c) = 0 := ordE_ok hp (by simp) (fun x hx => by have := List.eq_of_mem_replicate hx; omega)
  have hm := cen_mid (S := S) (same := List.replicate S.length c) (c := c) hp.up ht.s2 (by omega) (fun i hi => by unfold at_; rw [List.getElem?_replicate, if_pos hi]; rfl) (hp.first_lt _ (by have := ht.s2; omega) (by have := ht.s2; omega))
  unfold cenF
  rw [if_pos ho, if_neg hm.1, hm.2, h]

set_option maxRecDepth 100000 in
set_option maxHeartbeats 8000000 in
theorem lawVolumes_w (W : World) (a0 : Option Addr) (n0 c0 : Nat) (ls : List Int) (a1 : Option Addr) (n1 c1 : Nat) (ms : List Int) (a2 : Option Addr) (n2 c2 : Nat) (hs : List Int) (i0 : IsL W (.slice a0 n0 c0) ls) (m0 : ls.length ≤ 1000000000000000000) (i1 : IsL W (.slice a1 n1 c1) ms) (m1 : ms.length ≤ 1000000000000000000) (i2 : IsL W (.slice a2 n2 c2) hs) (m2 : hs.length ≤ 1000000000000000000) (y : Int) (hy : FB y) :
    Calls Try.prog 11 #[.agg #[.slice a0 n0 c0, .slice a1 n1 c1, .slice a2 n2 c2], .int .i64 y] W fun e w' => e = .returned (.bool true) ∧ Below W.heap.size W w' := by
  have P : ∀ V : World, Below W.heap.size W V → Calls Try.prog 56 #[.slice a0 n0 c0, .slice a1 n1 c1, .slice a2 n2 c2] V fun e w' => TableOf V w' e := fun V hb => table_w a0 a1 a2 n0 n1 n2 c0 c1 c2 ls ms hs V (i0.below hb) (i1.below hb) (i2.below hb) m0 m1 m2
  have M := fun V => mod_w y 20000 V hy (by omega) (by omega)
  have y1 := Int.emod_nonneg y (show (20000 : Int) ≠ 0 by omega)
  have y2 := Int.emod_lt_of_pos y (show (0 : Int) < 20000 by omega)
  generalize y % 20000 = c at M y1 y2
  have HP := hide P; have HM := hide M
  clear P M i0 i1 i2 m0 m1 m2 hy
  go_enter Try.func11, Try.ntmps11
  go_wp2_with fail
  refine (HP.out _ ((Below.refl _ _).alloc (Nat.le_refl _) _)).mono ?_
  rintro e w1 ⟨b1, d1, b2, d2, b3, d3, vs, S, T, H, rfl, l1, l2, l3, s1, s2, s9, t1, t2, t7, hl, hr, hb⟩
  have ht : Tb S T H := ⟨s1, s2, s9, t1, t2, t7, hl, hr⟩
  have hB1 : Below W.heap.size W w1 := ((Below.refl _ _).alloc (Nat.le_refl _) _).trans (hb.mono (by simp))
  have HT := hide ht; have HB1 := hide hB1; have HL1 := hide l1; have HL2 := hide l2; have HL3 := hide l3
  clear HP l1 l2 l3 s1 t1 hl hr hb hB1 ht
  go_wp2_with fail
  obtain ⟨tb, htb⟩ : ∃ tb, w1.heap.size = tb := ⟨_, rfl⟩
  obtain ⟨w2, hw2⟩ : ∃ w2, w1.alloc (.cells #[.slice b1 S.length d1, .slice b2 T.length d2, .slice b3 S.length d3] 70) = w2 := ⟨_, rfl⟩
  have k2 : Below w1.heap.size w1 w2 := by rw [← hw2]; exact (Below.refl _ _).alloc (Nat.le_refl _) _
  have z2 : w2.heap.size = tb + 1 := by rw [← hw2, ← htb]; simp
  have T2 : TbW w2 tb b1 d1 b2 d2 b3 d3 vs S T H := ⟨by rw [← hw2, ← htb]; exact Blk.new w1 _ _, HL1.out.below k2, HL2.out.below k2, (HL3.out.below k2).more k2.size⟩
  have HB2 := hide (back HB1.out k2); have HT2 := hide T2
  rw [hw2, htb]
  clear hw2 k2 T2 HL1 HL2 HL3 HB1 z2 htb
  obtain ⟨V, hV⟩ : ∃ V, volE S T H = V := ⟨_, rfl⟩
  have hVb := vol_lim S T H
  rw [hV] at hVb
  obtain ⟨hVb1, hVb2⟩ := hVb
  obtain ⟨N, hN⟩ : ∃ N, flo V 1296000000 = N := ⟨_, rfl⟩
  have hlit : litE S T H = N := by unfold litE; rw [if_pos HT.out.ok, hV, hN]
  have hnear := near_litre V
  rw [hN] at hnear
  obtain ⟨hn1, hn2⟩ := hnear
  have CV : ∀ X : World, Below w2.heap.size w2 X → Calls Try.prog 57 #[.agg #[.slice b1 S.length d1, .slice b2 T.length d2, .slice b3 S.length d3]] X fun e w' => e = .returned (.tuple #[.int .i64 V, .int .i64 0]) ∧ Below X.heap.size X w' := fun X hb => by
    have t := HT2.out.below hb
    have := Volume_w _ _ _ _ _ _ _ _ _ vs S T H X t.l1 t.l2 t.l3
    rwa [hV, HT.out.ok] at this
  have CL : ∀ X : World, Below w2.heap.size w2 X → Calls Try.prog 58 #[.agg #[.slice b1 S.length d1, .slice b2 T.length d2, .slice b3 S.length d3]] X fun e w' => e = .returned (.tuple #[.int .i64 N, .int .i64 0]) ∧ Below X.heap.size X w' := fun X hb => by
    have t := HT2.out.below hb
    have := Litres_w _ _ _ _ _ _ _ _ _ vs S T H X t.l1 t.l2 t.l3
    rwa [hlit, HT.out.ok] at this
  have HCV := hide CV; have HCL := hide CL; have HV := hide hV
  clear CV CL hlit hV hN
  have cw : ∀ X, Below w2.heap.size w2 X → X.cell? ⟨tb, 0, none⟩ = some (.slice b1 S.length d1) ∧ X.cell? ⟨tb, 1, none⟩ = some (.slice b2 T.length d2) ∧ X.cell? ⟨tb, 2, none⟩ = some (.slice b3 S.length d3) ∧ tb < X.heap.size := fun X hb => by
    have t := (HT2.out.below hb).blk
    exact ⟨t.cell 0, t.cell 1, t.cell 2, t.lt⟩
  have HCW := hide cw
  clear cw
  obtain ⟨x0, x1, x2, x3⟩ := HCW.out w2 (Below.refl _ _)
  refine (HCV.out _ (Below.refl _ _)).mono ?_
  rintro e w3 ⟨rfl, hb3⟩
  have K3 := hide hb3
  obtain ⟨x0', x1', x2', x3'⟩ := HCW.out w3 hb3
  clear hb3 x0 x1 x2 x3
  go_wp2_with fail
  refine (HCL.out _ K3.out).mono ?_
  rintro e w4 ⟨rfl, hb4⟩
  have K4 := hide (back K3.out hb4)
  obtain ⟨x0, x1, x2, x3⟩ := HCW.out w4 K4.out
  clear hb4 x0' x1' x2' x3' K3
  go_wp2_with fail
  refine (Weights_pos _ _ _ S _ (HT2.out.below K4.out).l1 HT.out.pS).mono ?_
  rintro e w5 ⟨a5, k5, rfl, hv5, _, hb5⟩
  have K5 := hide (back K4.out hb5); have HA5 := hide hv5
  obtain ⟨x0', x1', x2', x3'⟩ := HCW.out w5 K5.out
  clear hb5 hv5 x0 x1 x2 x3 K4
  go_wp2_with fail
  refine (Weights_pos _ _ _ T _ (HT2.out.below K5.out).l2 HT.out.pT).mono ?_
  rintro e w6 ⟨a6, k6, rfl, hv6, _, hb6⟩
  have K6 := hide (back K5.out hb6); have HA6 := hide (HA5.out.below hb6); have HW6 := hide hv6
  obtain ⟨x0, x1, x2, x3⟩ := HCW.out w6 K6.out
  clear hb6 hv6 x0' x1' x2' x3' K5 HA5 HCV HCL
  obtain ⟨hb, ho, rfl, hbl, hrow⟩ := (HT2.out.below K6.out).rowS HT.out
  have HROW := hide hrow
  have hz6 := K6.out.size
  clear hrow
  go_wp2_with fail
  go_loopw [14, 15] (fun one i wr => ∃ (k : Nat) (A : Int), one = .int .i64 A ∧ i = .int .i64 k ∧ k ≤ S.length ∧ Hid (sumN (f1 S T H) k = A) ∧ Hid (Below w6.heap.size w6 wr)) (fun _ i _ => S.length - (intOf i).toNat)
  case atStart => exact ⟨0, 0, rfl, rfl, Nat.zero_le _, hide rfl, hide (Below.refl _ _)⟩
  case round =>
    obtain ⟨k, A, rfl, rfl, hk, hA, hbel⟩ := hrel
    have hzr := hbel.out.size
    by_cases hlt : k < S.length
    · have hl3 : (k : Int) < S.length := by omega
      obtain ⟨rb, rc, ro, hc1, hrl, hrb, hrc⟩ := HROW.out k hlt
      have hor : ordE T (rowAt H k) = 0 := ordE_ok HT.out.pT (HT.out.row k hlt).1 (fun x hx => by have := (HT.out.row k hlt).2 x hx; omega)
      have har := areaV_ok hor
      obtain ⟨D, hD⟩ : ∃ D, dot T (rowAt H k) = D := ⟨_, rfl⟩
      have CA : ∀ X : World, Below w6.heap.size w6 X → Calls Try.prog 41 #[.slice b2 T.length d2, .slice (some ⟨rb, ro, none⟩) T.length rc] X fun e w' => e = .returned (.tuple #[.int .i64 D, .int .i64 0]) ∧ Below X.heap.size X w' := fun X hX => by
        have := Area_w _ _ _ _ _ _ T (rowAt H k) X (HT2.out.below (back K6.out hX)).l2 (hrl.below hX)
        rwa [har, hor, hD] at this
      have HCA := hide CA
      have hw : w6.cell? ⟨hb, ho + k, none⟩ = some (.slice (some ⟨rb, ro, none⟩) T.length rc) := hc1
      have cc : ∀ X, Below w6.heap.size w6 X → X.cell? ⟨tb, 1, none⟩ = some (.slice b2 T.length d2) ∧ X.cell? ⟨tb, 2, none⟩ = some (.slice (some ⟨hb, ho, none⟩) S.length d3) ∧ X.cell? ⟨hb, ho + k, none⟩ = some (.slice (some ⟨rb, ro, none⟩) T.length rc) ∧ Below w6.heap.size w6 X := fun X hX => by
        obtain ⟨_, q1, q2, _⟩ := HCW.out X (back K6.out hX)
        exact ⟨q1, q2, (hX.cell (p := ⟨hb, ho + k, none⟩) hbl).trans hw, hX⟩
      have kp : ∀ X X' : World, (X.cell? ⟨tb, 1, none⟩ = some (.slice b2 T.length d2) ∧ X.cell? ⟨tb, 2, none⟩ = some (.slice (some ⟨hb, ho, none⟩) S.length d3) ∧ X.cell? ⟨hb, ho + k, none⟩ = some (.slice (some ⟨rb, ro, none⟩) T.length rc) ∧ Below w6.heap.size w6 X) → Below X.heap.size X X' → (X'.cell? ⟨tb, 1, none⟩ = some (.slice b2 T.length d2) ∧ X'.cell? ⟨tb, 2, none⟩ = some (.slice (some ⟨hb, ho, none⟩) S.length d3) ∧ X'.cell? ⟨hb, ho + k, none⟩ = some (.slice (some ⟨rb, ro, none⟩) T.length rc) ∧ Below w6.heap.size w6 X') := fun X X' h hX => cc X' (back h.2.2.2 hX)
      have KP := hide kp; have ST := hide (cc wr hbel.out)
      -- the sum's step
      have hn : sumN (f1 S T H) (k + 1) = A + 2 * at_ (wts S) k * D := by
        show sumN (f1 S T H) k + f1 S T H k = _
        rw [hA.out]; unfold f1; rw [hD]
      have ba := HT.out.s1b k (by omega)
      rw [hA.out] at ba
      have bf := HT.out.f1b k
      unfold f1 at bf
      rw [hD] at bf
      have bw := HT.out.wS k
      have hcw : ∀ X, Below w6.heap.size w6 X → ∃ b o, a5 = some ⟨b, o, none⟩ ∧ X.cell? ⟨b, o + k, none⟩ = some (.int .i64 (at_ (wts S) k)) := fun X hX => by
        obtain ⟨_, _, hv, _, _, _, h4⟩ := HA6.out.below hX
        obtain ⟨rfl, hln, rfl⟩ := Value.slice.inj hv
        obtain ⟨b, o, e, _, hc⟩ := h4 (by intro h; rw [h, List.length_nil] at hln; omega)
        exact ⟨b, o, e, hc k (by omega)⟩
      obtain ⟨x, hx⟩ : ∃ x, at_ (wts S) k = x := ⟨_, rfl⟩
      rw [hx] at hn bf bw
      have hcw' : ∀ X, Below w6.heap.size w6 X → ∃ b o, a5 = some ⟨b, o, none⟩ ∧ X.cell? ⟨b, o + k, none⟩ = some (.int .i64 x) := fun X hX => by rw [← hx]; exact hcw X hX
      have HCW' := hide hcw'; have HN := hide hn
      obtain ⟨ba1, ba2⟩ := ba
      obtain ⟨bf1, bf2⟩ := bf
      obtain ⟨bw1, bw2⟩ := bw
      clear CA cc kp hor har hD hn hcw hcw' hx hc1 hrl hrb hrc hw hA x0 x1 x2 x3
      go_wp2_with fail
      go_region_held3 (fun X => X.cell? ⟨tb, 1, none⟩ = some (.slice b2 T.length d2) ∧ X.cell? ⟨tb, 2, none⟩ = some (.slice (some ⟨hb, ho, none⟩) S.length d3) ∧ X.cell? ⟨hb, ho + k, none⟩ = some (.slice (some ⟨rb, ro, none⟩) T.length rc) ∧ Below w6.heap.size w6 X) (first | exact ST.out | (refine KP.out _ _ (by assumption) ?_; first | assumption | exact below_drewN (Below.refl _ _) 1) | assumption)
        ((go_at_call 41; refine (HCA.out _ (by first | assumption | exact below_drewN ST.out.2.2.2 1 | exact (show _ ∧ _ ∧ _ ∧ Below w6.heap.size w6 _ by assumption).2.2.2)).mono ?_; rintro e w' ⟨rfl, hb⟩))
      have hS : Below w6.heap.size w6 w' := by first | exact keep.2.2.2 | exact (show _ ∧ _ ∧ _ ∧ Below w6.heap.size w6 w' by assumption).2.2.2
      obtain ⟨b5, o5, rfl, hx5⟩ := HCW'.out w' hS
      have HBN := hide hS
      clear hS KP ST HCA HCW'
      go_wp2
      go_roundw
      case rel => exact ⟨k + 1, _, rfl, by go_num, by omega, HN, HBN⟩
      case measure => simp [intOf]; omega
    · have hl3 : ¬ ((k : Int) < S.length) := by omega
      obtain rfl : k = S.length := by omega
      obtain rfl : A = V := by rw [← hA.out, ← HT.out.v1, HV.out]
      clear hA x0 x1 x2 x3
      go_wp2_with fail
      go_loopw [18, 19] (fun two i wr2 => ∃ (k : Nat) (B : Int), two = .int .i64 B ∧ i = .int .i64 k ∧ k ≤ T.length ∧ Hid (sumN (f2 S T H) k = B) ∧ Hid (Below w6.heap.size w6 wr2)) (fun _ i _ => T.length - (intOf i).toNat)
      case atStart => exact ⟨0, 0, rfl, rfl, Nat.zero_le _, hide rfl, hbel⟩
      case round =>
        obtain ⟨k, B, rfl, rfl, hk, hBs, hbel2⟩ := hrel
        obtain ⟨wo, rfl⟩ : ∃ wo : World, wo = wr := ⟨_, rfl⟩
        have hzo := hbel2.out.size
        by_cases hlt : k < T.length
        · have hl4 : (k : Int) < T.length := by omega
          go_wp2_with fail
          go_loopw [20, 21] (fun col i wr => ∃ (q : Nat) (C : Value) (xs : List Int), C = col ∧ i = .int .i64 q ∧ q ≤ S.length ∧ Hid (xs = (colL H S.length k).take q) ∧ Hid (Own wo.heap.size wr C xs) ∧ Hid (Below wo.heap.size wo wr)) (fun _ i _ => S.length - (intOf i).toNat)
          case atStart => exact ⟨0, _, [], rfl, rfl, Nat.zero_le _, hide rfl, hide (Own.nil _ _), hide (Below.refl _ _)⟩
          case round =>
            obtain ⟨q, C, xs, rfl, rfl, hq, hxs, hC, hbi⟩ := hrel
            have hX := hide (hbel2.out.trans (hbi.out.mono hzo))
            obtain ⟨x0, x1, x2, x3⟩ := HCW.out wr (back K6.out hX.out)
            by_cases hlq : q < S.length
            · have hl5 : (q : Int) < S.length := by omega
              obtain ⟨rb, rc, ro, hc1, hrl, hrb, hrc⟩ := HROW.out q hlq
              have e1 : wr.cell? ⟨hb, ho + q, none⟩ = some (.slice (some ⟨rb, ro, none⟩) T.length rc) := (hX.out.cell (p := ⟨hb, ho + q, none⟩) hbl).trans hc1
              have e2 : wr.cell? ⟨rb, ro + k, none⟩ = some (.int .i64 (at_ (rowAt H q) k)) := (hX.out.cell (p := ⟨rb, ro + k, none⟩) hrb).trans (hrc k hlt)
              have hnx : xs ++ [at_ (rowAt H q) k] = (colL H S.length k).take (q + 1) := by
                rw [List.take_succ_eq_append_getElem (by rw [colL_len]; exact hlq), hxs.out]
                congr 2
                have := colL_at H S.length k q hlq
                rw [at_get (by rw [colL_len]; exact hlq)] at this
                exact this.symm
              have hxl : xs.length ≤ 1000000 := by rw [hxs.out, List.length_take]; omega
              have hsz := hbi.out.size
              obtain ⟨z, hz⟩ : ∃ z, at_ (rowAt H q) k = z := ⟨_, rfl⟩
              rw [hz] at e2 hnx
              have HNX := hide hnx
              clear hz hnx hc1 hrl hrc
              go_wp2_with (at_builtin; refine push_w rfl (.tmp 142) (.tmp 151) rfl wo.heap.size wr C xs z hC.out rfl rfl hxl hsz ?_; intro v' w5 hown5 hg5 _)
              go_roundw
              case rel => exact ⟨q + 1, _, _, rfl, by go_num, by omega, HNX, hide hown5, hide (hbi.out.trans (grow_below hC.out hsz hg5))⟩
              case measure => simp [intOf]; omega
            · have hl5 : ¬ ((q : Int) < S.length) := by omega
              obtain rfl : q = S.length := by omega
              have hxe : xs = colL H S.length k := by rw [hxs.out, List.take_of_length_le (by rw [colL_len]; exact Nat.le_refl _)]
              have hxl : xs.length = S.length := by rw [hxe, colL_len]
              have hxm : ∀ x ∈ xs, 0 ≤ x ∧ x ≤ 20000 := by rw [hxe]; exact colL_mem HT.out _ _
              have hCL := hC.out.isL (fun x hx => by have := hxm x hx; exact ⟨by omega, by omega⟩)
              obtain ⟨cg, cc, rfl, _, _, _⟩ := hC.out.form hxl (by omega)
              have hor : ordE S xs = 0 := ordE_ok HT.out.pS hxl (fun x hx => by have := hxm x hx; omega)
              have har := areaV_ok hor
              obtain ⟨D, hD⟩ : ∃ D, dot S xs = D := ⟨_, rfl⟩
              have hn : sumN (f2 S T H) (k + 1) = B + 2 * at_ (wts T) k * D := by
                show sumN (f2 S T H) k + f2 S T H k = _
                rw [hBs.out]; unfold f2; rw [← hxe, hD]
              have ba := HT.out.s2b k (by omega)
              rw [hBs.out] at ba
              have bf := HT.out.f2b k
              unfold f2 at bf
              rw [← hxe, hD] at bf
              have bw := HT.out.wT k
              have hcw : ∀ X, Below w6.heap.size w6 X → ∃ b o, a6 = some ⟨b, o, none⟩ ∧ X.cell? ⟨b, o + k, none⟩ = some (.int .i64 (at_ (wts T) k)) := fun X hX => by
                obtain ⟨_, _, hv, _, _, _, h4⟩ := HW6.out.below hX
                obtain ⟨rfl, hln, rfl⟩ := Value.slice.inj hv
                obtain ⟨b, o, e, _, hc⟩ := h4 (by intro h; rw [h, List.length_nil] at hln; omega)
                exact ⟨b, o, e, hc k (by omega)⟩
              obtain ⟨x, hx⟩ : ∃ x, at_ (wts T) k = x := ⟨_, rfl⟩
              rw [hx] at hn bf bw
              have hcw' : ∀ X, Below w6.heap.size w6 X → ∃ b o, a6 = some ⟨b, o, none⟩ ∧ X.cell? ⟨b, o + k, none⟩ = some (.int .i64 x) := fun X hX => by rw [← hx]; exact hcw X hX
              have HCW' := hide hcw'; have HN := hide hn
              have CA : ∀ X : World, Below wr.heap.size wr X → Calls Try.prog 41 #[.slice b1 S.length d1, .slice (some ⟨cg, 0, none⟩) S.length cc] X fun e w' => e = .returned (.tuple #[.int .i64 D, .int .i64 0]) ∧ Below X.heap.size X w' := fun X hX' => by
                have := Area_w _ _ _ _ _ _ S xs X ((HT2.out.below (back K6.out (back hX.out hX'))).l1) (hCL.below hX')
                rwa [har, hor, hD] at this
              have HCA := hide CA
              obtain ⟨ba1, ba2⟩ := ba
              obtain ⟨bf1, bf2⟩ := bf
              obtain ⟨bw1, bw2⟩ := bw
              clear CA hor har hD hn hcw hcw' hx hBs hxe hxl hxm hCL hC hxs
              go_wp2_with fail
              refine (HCA.out _ (Below.refl _ _)).mono ?_
              rintro e w7 ⟨rfl, hb7⟩
              have hB7 := back hX.out hb7
              obtain ⟨b5, o5, rfl, hx5⟩ := HCW'.out w7 hB7
              have HBN := hide hB7
              clear hB7 hb7 HCA HCW'
              go_wp2
              go_roundw
              case rel => exact ⟨k + 1, _, rfl, by go_num, by omega, HN, HBN⟩
              case measure => simp [intOf]; omega
        · have hl4 : ¬ ((k : Int) < T.length) := by omega
          obtain rfl : k = T.length := by omega
          obtain rfl : B = A := by rw [← hBs.out, ← HT.out.v2, HV.out]
          clear hBs
          go_wp2_with fail
          go_loopw [24, 25] (fun sm i wr => ∃ (q : Nat) (C : Value), C = sm ∧ i = .int .i64 q ∧ q ≤ S.length ∧ Hid (Own wo.heap.size wr C (List.replicate q (1 + c))) ∧ Hid (Below wo.heap.size wo wr)) (fun _ i _ => S.length - (intOf i).toNat)
          case atStart => exact ⟨0, _, rfl, rfl, Nat.zero_le _, hide (Own.nil _ _), hide (Below.refl _ _)⟩
          case round =>
            obtain ⟨q, C, rfl, rfl, hq, hC, hbi⟩ := hrel
            have hsz := hbi.out.size
            by_cases hlq : q < S.length
            · have hl5 : (q : Int) < S.length := by omega
              have hxl : (List.replicate q (1 + c)).length ≤ 1000000 := by simp; omega
              have hnx : List.replicate q (1 + c) ++ [1 + c] = List.replicate (q + 1) (1 + c) := by rw [List.replicate_succ']
              have HNX := hide hnx
              clear hnx
              go_wp2_with (first
                | (go_at_call 52; refine (HM.out _).mono ?_; rintro e w' ⟨rfl, rfl⟩)
                | (at_builtin; refine push_w rfl (.tmp 177) (.tmp 181) rfl wo.heap.size wr C _ (1 + c) hC.out rfl rfl hxl hsz ?_; intro v' w5 hown5 hg5 _))
              go_roundw
              case rel => exact ⟨q + 1, _, rfl, by go_num, by omega, hide (by rw [← HNX.out]; exact hown5), hide (hbi.out.trans (grow_below hC.out hsz hg5))⟩
              case measure => simp [intOf]; omega
            · have hl5 : ¬ ((q : Int) < S.length) := by omega
              obtain rfl : q = S.length := by omega
              have hCL := hC.out.isL (fun x hx => by have := List.eq_of_mem_replicate hx; exact ⟨by omega, by omega⟩)
              obtain ⟨cg, cc, rfl, _, _, _⟩ := hC.out.form (n := S.length) (by simp) (by omega)
              have hs0 := HT.out.bS 0 (by omega)
              have hs1 := HT.out.bS (S.length - 1) (by omega)
              obtain ⟨p, r, hmk⟩ := mk_half (n := at_ S 0 + at_ S (S.length - 1)) (by omega) (by omega)
              have hcen := cen_same HT.out (c := 1 + c) (by omega) (by omega) hmk
              have HX := hide (back K6.out (hbel2.out.trans (hbi.out.mono hzo)))
              have CC : ∀ X : World, Below wr.heap.size wr X → Calls Try.prog 45 #[.slice b1 S.length d1, .slice (some ⟨cg, 0, none⟩) S.length cc] X fun e w' => e = .returned (.tuple #[.agg #[.int .i64 p, .int .i64 r], .int .i64 0]) ∧ Below X.heap.size X w' := fun X hX' =>
                Centre_w S _ (hide hcen) _ _ _ _ _ _ X ((HT2.out.below (back HX.out hX')).l1) (hCL.below hX')
              have cs : ∀ X : World, Below w2.heap.size w2 X → ∃ sb so, b1 = some ⟨sb, so, none⟩ ∧ sb < X.heap.size ∧ X.cell? ⟨sb, so, none⟩ = some (.int .i64 (at_ S 0)) ∧ X.cell? ⟨sb, so + (S.length - 1), none⟩ = some (.int .i64 (at_ S (S.length - 1))) := fun X hX' => by
                obtain ⟨_, _, hv, _, _, _, h4⟩ := (HT2.out.below hX').l1
                obtain ⟨rfl, hln, rfl⟩ := Value.slice.inj hv
                obtain ⟨b, o, e, hlt, hc⟩ := h4 (by intro h; rw [h] at s2; simp at s2)
                exact ⟨b, o, e, hlt, hc 0 (by omega), hc (S.length - 1) (by omega)⟩
              have HCC := hide CC; have HCS := hide cs
              obtain ⟨u0, hu0⟩ : ∃ u, at_ S 0 = u := ⟨_, rfl⟩
              obtain ⟨u1, hu1⟩ : ∃ u, at_ S (S.length - 1) = u := ⟨_, rfl⟩
              rw [hu0, hu1] at hmk
              rw [hu0] at hs0
              rw [hu1] at hs1
              have CM : ∀ X : World, Calls Try.prog 12 #[.int .i64 (u0 + u1), .int .i64 2] X fun e w' => e = .returned (.tuple #[.agg #[.int .i64 p, .int .i64 r], .int .i64 0]) ∧ Below X.heap.size X w' := fun X => make_c (hide hmk) X ⟨by omega, by omega⟩ ⟨by omega, by omega⟩
              have HCM := hide CM
              obtain ⟨zz0, zz1, zz2, zz3⟩ := HCW.out wr HX.out
              clear CC cs CM hmk hcen hCL hC
              go_wp2_with fail
              refine (HCC.out _ (Below.refl _ _)).mono ?_
              rintro e w7 ⟨rfl, hb7⟩
              have HX7 := hide (back HX.out hb7)
              obtain ⟨sb, so, rfl, hsb, hq0, hq1⟩ := HCS.out w7 HX7.out
              rw [hu0] at hq0
              rw [hu1] at hq1
              obtain ⟨x0, x1, x2, x3⟩ := HCW.out w7 HX7.out
              clear zz0 zz1 zz2 zz3
              obtain ⟨hs01, hs02⟩ := hs0
              obtain ⟨hs11, hs12⟩ := hs1
              have hi1 : (0 : Int) ≤ (S.length : Int) - 1 := by omega
              have hi2 : ((S.length : Int) - 1).toNat = S.length - 1 := by omega
              have hi3 : (0 : Int) < S.length := by omega
              have hi4 : (S.length : Int) - 1 < S.length := by omega
              have hi5 : 0 < S.length := by omega
              have hi8 : (1 : Int) ≤ S.length := by omega
              have hi9 : 1 ≤ S.length := by omega
              have hi6 : S ≠ [] := by intro h; rw [h] at hi5; simp at hi5
              have hi7 : S.length - 1 < S.length := by omega
              have hwr : IntKind.i64.wrap ((S.length : Int) - 1) = (S.length : Int) - 1 := IntWalk.i64_in _ (by omega)
              have hwr2 : IntKind.i64.wrap (u0 + u1) = u0 + u1 := IntWalk.i64_in _ (by omega)
              clear hb7 hu0 hu1 HCC HCS
              go_wp2_with fail
              obtain ⟨w8, hw8⟩ : ∃ w8, w7.alloc (.cells #[.int .i64 p, .int .i64 r] 23) = w8 := ⟨_, rfl⟩
              have hb8 : Below w7.heap.size w7 w8 := by rw [← hw8]; exact (Below.refl _ _).alloc (Nat.le_refl _) _
              have v0 : w8.cell? ⟨tb, 0, none⟩ = some (.slice (some ⟨sb, so, none⟩) S.length d1) := (hb8.cell (p := ⟨tb, 0, none⟩) x3).trans x0
              have v1 : w8.cell? ⟨sb, so, none⟩ = some (.int .i64 u0) := (hb8.cell (p := ⟨sb, so, none⟩) hsb).trans hq0
              have v2 : w8.cell? ⟨sb, so + (S.length - 1), none⟩ = some (.int .i64 u1) := (hb8.cell (p := ⟨sb, so + (S.length - 1), none⟩) hsb).trans hq1
              have v3 : w8.cell? ⟨w7.heap.size, 0, none⟩ = some (.int .i64 p) := by rw [← hw8]; simp
              have v4 : w8.cell? ⟨w7.heap.size, 1, none⟩ = some (.int .i64 r) := by rw [← hw8]; simp
              have v5 : w7.heap.size < w8.heap.size := by rw [← hw8]; simp
              have HX8 := hide (back HX7.out hb8)
              rw [hw8]
              have v55 : sb < w8.heap.size ∧ tb < w8.heap.size := ⟨by omega, by omega⟩
              clear hw8 hb8 x0 x1 x2 x3 hq0 hq1 hsb
              have v6 : tb < w8.heap.size := v55.2
              have v7 : sb < w8.heap.size := v55.1
              have cc8 : ∀ X, Below w8.heap.size w8 X → X.cell? ⟨tb, 0, none⟩ = some (.slice (some ⟨sb, so, none⟩) S.length d1) ∧ X.cell? ⟨sb, so, none⟩ = some (.int .i64 u0) ∧ X.cell? ⟨sb, so + (S.length - 1), none⟩ = some (.int .i64 u1) ∧ Below w8.heap.size w8 X := fun X hX => ⟨(hX.cell (p := ⟨tb, 0, none⟩) v6).trans v0, (hX.cell (p := ⟨sb, so, none⟩) v7).trans v1, (hX.cell (p := ⟨sb, so + (S.length - 1), none⟩) v7).trans v2, hX⟩
              have kp : ∀ X X' : World, (X.cell? ⟨tb, 0, none⟩ = some (.slice (some ⟨sb, so, none⟩) S.length d1) ∧ X.cell? ⟨sb, so, none⟩ = some (.int .i64 u0) ∧ X.cell? ⟨sb, so + (S.length - 1), none⟩ = some (.int .i64 u1) ∧ Below w8.heap.size w8 X) → Below X.heap.size X X' → (X'.cell? ⟨tb, 0, none⟩ = some (.slice (some ⟨sb, so, none⟩) S.length d1) ∧ X'.cell? ⟨sb, so, none⟩ = some (.int .i64 u0) ∧ X'.cell? ⟨sb, so + (S.length - 1), none⟩ = some (.int .i64 u1) ∧ Below w8.heap.size w8 X') := fun X X' h hX => cc8 X' (back h.2.2.2 hX)
              have KP := hide kp; have ST := hide (cc8 w8 (Below.refl _ _))
              have V3 := hide v3; have V4 := hide v4
              have cz : ∀ w' : World, Below (w8.alloc (.cells #[.int .i64 0, .int .i64 0] 23)).drew.heap.size (w8.alloc (.cells #[.int .i64 0, .int .i64 0] 23)).drew w' → w'.cell? ⟨w8.heap.size, 0, none⟩ = some (.int .i64 0) ∧ w'.cell? ⟨w8.heap.size, 1, none⟩ = some (.int .i64 0) ∧ w'.frozen? ⟨w8.heap.size, 0, none⟩ = false ∧ w'.frozen? ⟨w8.heap.size, 1, none⟩ = false := by
                intro w' hb
                have hk : Blk w' w8.heap.size 23 #[.int .i64 0, .int .i64 0] := (hb.block w8.heap.size (by simp)).trans (Blk.new w8 _ _)
                exact ⟨hk.cell 0, hk.cell 1, hk.frozen 0, hk.frozen 1⟩
              have cma : Calls Try.prog 12 #[.int .i64 (u0 + u1), .int .i64 2] w8.drew fun e w' => e = .returned (.tuple #[.agg #[.int .i64 p, .int .i64 r], .int .i64 0]) ∧ Below w8.heap.size w8 w' :=
                (HCM.out _).mono fun _ _ ⟨he, hb⟩ => ⟨he, (below_drewN (Below.refl _ _) 1).trans hb⟩
              have cmb : Calls Try.prog 12 #[.int .i64 (u0 + u1), .int .i64 2] (w8.alloc (.cells #[.int .i64 0, .int .i64 0] 23)).drew fun e w' => e = .returned (.tuple #[.agg #[.int .i64 p, .int .i64 r], .int .i64 0]) ∧ Below w8.heap.size w8 w' ∧ w'.cell? ⟨w8.heap.size, 0, none⟩ = some (.int .i64 0) ∧ w'.cell? ⟨w8.heap.size, 1, none⟩ = some (.int .i64 0) ∧ w'.frozen? ⟨w8.heap.size, 0, none⟩ = false ∧ w'.frozen? ⟨w8.heap.size, 1, none⟩ = false :=
                (HCM.out _).mono fun _ w' ⟨he, hb⟩ => ⟨he, back (below_drewN ((Below.refl _ _).alloc (Nat.le_refl _) _) 1) hb, cz w' hb⟩
              have HMA := hide cma; have HMB := hide cmb
              clear kp cc8 v0 v1 v2 v3 v4 cz cma cmb
              go_region_held3 (fun X => X.cell? ⟨tb, 0, none⟩ = some (.slice (some ⟨sb, so, none⟩) S.length d1) ∧ X.cell? ⟨sb, so, none⟩ = some (.int .i64 u0) ∧ X.cell? ⟨sb, so + (S.length - 1), none⟩ = some (.int .i64 u1) ∧ Below w8.heap.size w8 X) (first | exact ST.out | (refine KP.out _ _ (by assumption) ?_; first | assumption | exact below_drewN (Below.refl _ _) 1) | exact KP.out _ _ ST.out hx8 | exact KP.out _ _ ST.out (hx8.alloc hx8.size _) | exact KP.out _ _ ST.out (below_drewN ((Below.refl _ _).alloc (Nat.le_refl _) _) 1) | exact KP.out _ _ ST.out ((hx8.setCell (Nat.le_refl _) _).setCell (Nat.le_refl _) _) | exact KP.out _ _ ST.out (hx8.setCell (Nat.le_refl _) _) | assumption)
                (first
                  | (go_at_call 12; refine HMB.out.mono ?_; rintro e w' ⟨rfl, hx8, hc0, hc1, hf0, hf1⟩)
                  | (go_at_call 12; refine HMA.out.mono ?_; rintro e w' ⟨rfl, hx8⟩))
              all_goals
                have r3 : w'.cell? ⟨w7.heap.size, 0, none⟩ = some (.int .i64 p) := (hx8.cell (p := ⟨w7.heap.size, 0, none⟩) v5).trans V3.out
                have r4 : w'.cell? ⟨w7.heap.size, 1, none⟩ = some (.int .i64 r) := (hx8.cell (p := ⟨w7.heap.size, 1, none⟩) v5).trans V4.out
                have r5 := hx8.size
                have r6 : w7.heap.size < w'.heap.size := by omega
                have r7 : w7.heap.size ≠ w8.heap.size := by omega
                have r8 : w8.heap.size ≠ w7.heap.size := by omega
                have HBF := hide (back HB2.out (back HX8.out hx8))
                go_wp2_with (go_at_call 32; refine (sane_w _).mono ?_; rintro e w9 ⟨rfl, hb9⟩)
                go_ret
                first
                  | exact ⟨rfl, back (HBF.out.alloc HBF.out.size _) hb9⟩
                  | exact ⟨rfl, back ((HBF.out.setCell (by simp; have := HBF.out.size; have := HX8.out.size; have := HB2.out.size; omega) _).setCell (by simp; have := HX8.out.size; have := HB2.out.size; omega) _) hb9⟩
end Go.Proofs.Ytbkdffjdeplcgaa
