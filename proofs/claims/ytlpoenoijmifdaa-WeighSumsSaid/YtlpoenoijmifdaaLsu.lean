import Derived.Test.YtlpoenoijmifdaaSuv
import Derived.Test.YtlpoenoijmifdaaMod
import Derived.Deep.RegionHeld3
import Derived.IntWalk
set_option linter.unusedVariables false
set_option linter.unusedSimpArgs false
namespace Go.Proofs.Ytlpoenoijmifdaa
open Go.RowKit

set_option maxRecDepth 100000 in
set_option maxHeartbeats 8000000 in
theorem lawSums_w (W : World) (a : Option Addr) (n cap : Nat) (ls : List Int) (i0 : IsL W (.slice a n cap) ls) (m0 : ls.length ≤ 1000000000000000000)
    (a1 : Option Addr) (n1 c1 : Nat) (us : List Int) (a2 : Option Addr) (n2 c2 : Nat) (vs : List Int) (i1 : IsL W (.slice a1 n1 c1) us) (m1 : us.length ≤ 1000000000000000000) (i2 : IsL W (.slice a2 n2 c2) vs) (m2 : vs.length ≤ 1000000000000000000)
    (x0 x1 x2 x3 : Int) (f0 : FB x0) (f1 : FB x1) (f2 : FB x2) (f3 : FB x3) :
    Calls Try.prog 9 #[.slice a n cap, .agg #[.slice a1 n1 c1, .slice a2 n2 c2], .agg #[.int .i64 x0, .int .i64 x1, .int .i64 x2, .int .i64 x3]] W fun e w' => e = .returned (.bool true) ∧ Below W.heap.size W w' := by
  have P : ∀ W' : World, Below W.heap.size W W' → Calls Try.prog 51 #[.slice a n cap, .int .i64 9, .int .i64 3000] W' fun e w' => Drawn W'.heap.size 3000 9 e W' w' := fun W' hb => places_mk a n cap ls 9 3000 W' (i0.below hb) m0 (by omega) (by omega) (by omega) (by omega)
  have b0 := Int.emod_nonneg x0 (show (19 : Int) ≠ 0 by omega)
  have b1 := Int.emod_lt_of_pos x0 (show (0 : Int) < 19 by omega)
  have b2 := Int.emod_nonneg x1 (show (19 : Int) ≠ 0 by omega)
  have b3 := Int.emod_lt_of_pos x1 (show (0 : Int) < 19 by omega)
  have b4 := Int.emod_nonneg x2 (show (100001 : Int) ≠ 0 by omega)
  have b5 := Int.emod_lt_of_pos x2 (show (0 : Int) < 100001 by omega)
  have M0 := fun w => mod_w x0 19 w f0 (by omega) (by omega)
  have M1 := fun w => mod_w x1 19 w f1 (by omega) (by omega)
  have M2 := fun w => mod_w x2 100001 w f2 (by omega) (by omega)
  have A1 := fun (w : World) (hb : Below W.heap.size W w) (i : Int) (hi : FB i) => at_w a1 n1 c1 us i w (i1.below hb) hi m1
  have A2 := fun (w : World) (hb : Below W.heap.size W w) (i : Int) (hi : FB i) => at_w a2 n2 c2 vs i w (i2.below hb) hi m2
  generalize x0 % 19 = z0 at b0 b1 M0
  generalize x1 % 19 = z1 at b2 b3 M1
  generalize x2 % 100001 = z2 at b4 b5 M2
  have HP := hide P; have HM0 := hide M0; have HM1 := hide M1; have HM2 := hide M2; have HA1 := hide A1; have HA2 := hide A2
  have FU : ∀ i : Int, FB (atM us i) := by
    intro i
    obtain ⟨_, _, _, _, _, h3, _⟩ := i1
    unfold atM; split
    · exact ⟨by omega, by omega⟩
    · exact at_FB h3 _
  have FV : ∀ i : Int, FB (atM vs i) := by
    intro i
    obtain ⟨_, _, _, _, _, h3, _⟩ := i2
    unfold atM; split
    · exact ⟨by omega, by omega⟩
    · exact at_FB h3 _
  have HFU := hide FU; have HFV := hide FV
  clear FU FV
  clear P M0 M1 M2 A1 A2 i0 m0 i1 m1 i2 m2 f0 f1 f2
  obtain ⟨fa, hfa⟩ : ∃ f : Nat → Int, f = fun (j : Nat) => atM us (j : Int) % 2001 - 1000 := ⟨_, rfl⟩
  obtain ⟨fb, hfb⟩ : ∃ f : Nat → Int, f = fun (j : Nat) => atM vs (j : Int) % 2001 - 1000 := ⟨_, rfl⟩
  have HFA := hide hfa; have HFB := hide hfb
  clear hfa hfb
  go_enter Try.func9, Try.ntmps9
  go_wp2_with fail
  refine (HP.out _ (((Below.refl _ _).alloc (Nat.le_refl _) _).alloc (by simp) _)).mono ?_
  rintro e w1 ⟨v, xs, rfl, hown, hst, h2, h9, hb⟩
  have hK : Below (W.heap.size + 1) (W.alloc (.cells #[.slice a1 n1 c1, .slice a2 n2 c2] 62)) w1 := by
    have h1 := (Below.refl (W.heap.size + 1) (W.alloc (.cells #[.slice a1 n1 c1, .slice a2 n2 c2] 62))).alloc (by simp) (.cells #[.int .i64 x0, .int .i64 x1, .int .i64 x2, .int .i64 x3] 63)
    exact h1.trans (hb.mono (by simp))
  have hB : Below W.heap.size W w1 := ((Below.refl _ _).alloc (Nat.le_refl _) _).trans (hK.mono (by simp))
  have hk1 : Blk w1 W.heap.size 62 #[.slice a1 n1 c1, .slice a2 n2 c2] := (Blk.new W 62 #[.slice a1 n1 c1, .slice a2 n2 c2]).below (by simpa using hK)
  have hk2 : Blk w1 (W.heap.size + 1) 63 #[.int .i64 x0, .int .i64 x1, .int .i64 x2, .int .i64 x3] := by
    have h1 := Blk.new (W.alloc (.cells #[.slice a1 n1 c1, .slice a2 n2 c2] 62)) 63 #[.int .i64 x0, .int .i64 x1, .int .i64 x2, .int .i64 x3]
    rw [World.size_alloc] at h1
    exact h1.below (by simpa using hb)
  have hp := hst.pos h2 h9 (by omega) (by omega)
  have hL := hown.isL (pos_FB hp)
  obtain ⟨g, gc, rfl, hg1, hg2, _⟩ := hown.form rfl (by omega)
  have hz1 : W.heap.size + 2 ≤ w1.heap.size := by have := hb.size; simpa using this
  have HL := hide hL; have HP' := hide hp; have HST := hide hst; have HB := hide hB; have HK1 := hide hk1; have HK2 := hide hk2
  clear HP hL hp hown hst hb hB hK hg1 hk1 hk2
  go_wp2_with fail
  refine (Weights_pos _ _ _ xs w1 HL.out HP'.out).mono ?_
  rintro e w2 ⟨a3, c3, rfl, hv3, hf3, hb3⟩
  have hz2 := hb3.size
  have HW := hide hv3
  have HL2 := hide (HL.out.below hb3); have HB2 := hide (back HB.out hb3); have HK1' := hide (HK1.out.below hb3); have HK2' := hide (HK2.out.below hb3)
  have d0 : w2.cell? ⟨W.heap.size + 1, 0, none⟩ = some (.int .i64 x0) := HK2'.out.cell 0
  have d1 : w2.cell? ⟨W.heap.size + 1, 1, none⟩ = some (.int .i64 x1) := HK2'.out.cell 1
  have d2 : w2.cell? ⟨W.heap.size + 1, 2, none⟩ = some (.int .i64 x2) := HK2'.out.cell 2
  have hwl := wts_len xs
  have HWL := hide hwl
  clear hv3 hf3 hb3 HB HK1 HK2 HL hwl
  go_wp2_with fail
  refine (HM0.out _).mono ?_
  rintro e w' ⟨rfl, rfl⟩
  go_wp2_with fail
  refine (HM1.out _).mono ?_
  rintro e w' ⟨rfl, rfl⟩
  go_wp2_with fail
  refine (HM2.out _).mono ?_
  rintro e w' ⟨rfl, rfl⟩
  go_wp2_with fail
  go_loopw [12, 13, 14, 15, 16] (fun va vb vc s i wr => ∃ (A B C : Value) (k : Nat) (t : Int), A = va ∧ B = vb ∧ C = vc ∧ s = .int .i64 t ∧ i = .int .i64 k ∧ k ≤ xs.length ∧ Hid (t = ipN (wts xs) (List.replicate xs.length 1) k)
    ∧ Hid (Own w2.heap.size wr A ((List.range k).map fa)) ∧ Hid (Own w2.heap.size wr B ((List.range k).map fb)) ∧ Hid (Own w2.heap.size wr C ((List.range k).map fun j => (z0 - 9) * fa j + (z1 - 9) * fb j))
    ∧ Hid (Apart A B) ∧ Hid (Apart A C) ∧ Hid (Apart B C) ∧ Hid (Below w2.heap.size w2 wr)) (fun _ _ _ _ i _ => xs.length - (intOf i).toNat)
  case atStart =>
    exact ⟨_, _, _, 0, 0, rfl, rfl, rfl, rfl, rfl, Nat.zero_le _, hide rfl, hide (by simpa using Own.nil _ _), hide (by simpa using Own.nil _ _), hide (by simpa using Own.nil _ _), hide (by intro k h; simp [Value.ownBlock] at h), hide (by intro k h; simp [Value.ownBlock] at h), hide (by intro k h; simp [Value.ownBlock] at h), hide (Below.refl _ _)⟩
  case round =>
    obtain ⟨A, B, C, k, t, rfl, rfl, rfl, rfl, rfl, hk, ht, hA, hB, hC, hab, hac, hbc, hbel⟩ := hrel
    have hsz := hbel.out.size
    by_cases hlt : k < xs.length
    · have hW3 := IsL.below HW.out hbel.out
      obtain ⟨a', cap', hv, hl1, hl2, h3, h4⟩ := hW3
      obtain ⟨rfl, hln, rfl⟩ := Value.slice.inj hv
      clear hln
      obtain ⟨b, off, e, hbl, hc⟩ := h4 (by intro h; have := HWL.out; rw [h] at this; simp at this; omega)
      subst e
      have cw : wr.cell? ⟨b, off + k, none⟩ = some (.int .i64 (at_ (wts xs) k)) := hc k (by rw [HWL.out]; exact hlt)
      have hlm := ipN_lim (wts_lim HP'.out) (show Lim 1 (List.replicate xs.length 1) from fun i => by unfold at_; rw [List.getElem?_replicate]; split <;> simp) k
      rw [← ht.out] at hlm
      have hlw := wts_lim HP'.out k
      have hnext : ipN (wts xs) (List.replicate xs.length 1) (k + 1) = t + at_ (wts xs) k := by
        rw [ipN, ← ht.out]; congr 1; unfold at_; rw [List.getElem?_replicate, if_pos hlt]; simp
      obtain ⟨wx, hwx⟩ : ∃ x, at_ (wts xs) k = x := ⟨_, rfl⟩
      rw [hwx] at cw hlw hnext
      have HN := hide hnext
      clear hwx hnext hc h4 h3
      have hl3 : (k : Int) < xs.length := by omega
      have e0 : wr.cell? ⟨W.heap.size, 0, none⟩ = some (.slice a1 n1 c1) := (HK1'.out.below (hbel.out)).cell 0
      have e1 : wr.cell? ⟨W.heap.size, 1, none⟩ = some (.slice a2 n2 c2) := (HK1'.out.below (hbel.out)).cell 1
      have hwr : IntKind.i64.wrap (t + wx) = t + wx := IntWalk.i64_in _ (by omega)
      have hbW : Below W.heap.size W wr := HB2.out.trans (hbel.out.mono HB2.out.size)
      have CA := HA1.out wr hbW k ⟨by omega, by omega⟩
      have CM := fun w => mod_w (atM us k) 2001 w (HFU.out k) (by omega) (by omega)
      have HCA := hide CA; have HCM := hide CM; have HBW := hide hbW
      have HLM := hide hlm; have HLW := hide hlw
      clear CA CM hbW hlm hlw hl1 hl2 hbl hv
      go_wp2_with fail
      refine HCA.out.mono ?_
      rintro e w' ⟨rfl, rfl⟩
      obtain ⟨u, hu⟩ : ∃ u, atM us (k : Int) = u := ⟨_, rfl⟩
      have hcm := HCM.out wr
      rw [hu] at hcm ⊢
      have hu1 := Int.emod_nonneg u (show (2001 : Int) ≠ 0 by omega)
      have hu2 := Int.emod_lt_of_pos u (show (0 : Int) < 2001 by omega)
      go_wp2_with fail
      refine hcm.mono ?_
      rintro e w' ⟨rfl, rfl⟩
      have hfa : fa k = u % 2001 - 1000 := by rw [HFA.out]; simp only [hu]
      have n1 : (List.range k).map fa ++ [u % 2001 - 1000] = (List.range (k + 1)).map fa := by rw [List.range_succ, List.map_append, ← hfa]; rfl
      have N1 := hide n1; have HFK := hide hfa
      clear n1 hfa
      have hlenA : (List.map fa (List.range k)).length ≤ 1000000 := by simp; omega
      go_wp2_with (at_builtin; refine push_w rfl (.tmp 82) (.tmp 89) rfl w2.heap.size wr A _ (u % 2001 - 1000) hA.out rfl rfl hlenA hsz ?_; intro v1 w3 hown1 hg1 hbk1; have hb3 := grow_below hA.out hsz hg1; have e2 : w3.cell? ⟨W.heap.size, 1, none⟩ = some (.slice a2 n2 c2) := (hb3.cell (p := ⟨W.heap.size, 1, none⟩) (by simp only []; omega)).trans e1; have hB3 := hide (grow_kept hB.out hab.out.symm hg1); have hC3 := hide (grow_kept hC.out hac.out.symm hg1); have hab3 := hide (grow_apart hB.out hab.out.symm hbk1); have hac3 := hide (grow_apart hC.out hac.out.symm hbk1); rw [N1.out] at hown1; have HO1 := hide hown1; have HB3 := hide hb3; clear hb3 hown1 hg1 hbk1 e0 e1)
      have hbW3 : Below W.heap.size W w3 := HBW.out.trans (HB3.out.mono (by omega))
      have hz3 := HB3.out.size
      have hsz3 : w2.heap.size ≤ w3.heap.size := by omega
      refine (HA2.out w3 hbW3 k ⟨by omega, by omega⟩).mono ?_
      rintro e w' ⟨rfl, rfl⟩
      obtain ⟨q, hq⟩ : ∃ q, atM vs (k : Int) = q := ⟨_, rfl⟩
      have hcm2 := mod_w (atM vs k) 2001 w3 (HFV.out k) (by omega) (by omega)
      rw [hq] at hcm2 ⊢
      have hq1 := Int.emod_nonneg q (show (2001 : Int) ≠ 0 by omega)
      have hq2 := Int.emod_lt_of_pos q (show (0 : Int) < 2001 by omega)
      have HBW3 := hide hbW3
      clear hbW3
      go_wp2_with fail
      refine hcm2.mono ?_
      rintro e w' ⟨rfl, rfl⟩
      have hfb : fb k = q % 2001 - 1000 := by rw [HFB.out]; simp only [hq]
      have n2 : (List.range k).map fb ++ [q % 2001 - 1000] = (List.range (k + 1)).map fb := by rw [List.range_succ, List.map_append, ← hfb]; rfl
      have N2 := hide n2; have HFK2 := hide hfb
      clear n2 hfb hcm hcm2
      have hlenB : (List.map fb (List.range k)).length ≤ 1000000 := by simp; omega
      go_wp2_with (at_builtin; refine push_w rfl (.tmp 91) (.tmp 98) rfl w2.heap.size w3 B _ (q % 2001 - 1000) hB3.out rfl rfl hlenB hsz3 ?_; intro v2 w4 hown2 hg2 hbk2; have HB4 := hide (grow_below hB3.out hsz3 hg2); have HO1' := hide (grow_kept HO1.out hab3.out.symm hg2); have hC4 := hide (grow_kept hC3.out hbc.out.symm hg2); have hab4 := hide (grow_apart HO1.out hab3.out.symm hbk2); have hbc4 := hide (grow_apart hC3.out hbc.out.symm hbk2); rw [N2.out] at hown2; have HO2 := hide hown2; clear hown2 hg2 hbk2 e2)
      obtain ⟨x, hx⟩ : ∃ x, fa k = x := ⟨_, rfl⟩
      obtain ⟨y, hy⟩ : ∃ y, fb k = y := ⟨_, rfl⟩
      have hxu : x = u % 2001 - 1000 := by rw [← hx]; exact HFK.out
      have hyq : y = q % 2001 - 1000 := by rw [← hy]; exact HFK2.out
      have hxb : -1000 ≤ x ∧ x ≤ 1000 := by omega
      have hyb : -1000 ≤ y ∧ y ≤ 1000 := by omega
      obtain ⟨g1, gc1, rfl, hg1, hg1', hcl1⟩ := HO1'.out.form (n := k + 1) (by simp) (by omega)
      obtain ⟨g2, gc2, rfl, hg2, hg2', hcl2⟩ := HO2.out.form (n := k + 1) (by simp) (by omega)
      have cA : w4.cell? ⟨g1, k, none⟩ = some (.int .i64 x) := by have := hcl1 k (by omega); rw [at_fun _ _ _ (by omega), hx] at this; exact this
      have cB : w4.cell? ⟨g2, k, none⟩ = some (.int .i64 y) := by have := hcl2 k (by omega); rw [at_fun _ _ _ (by omega), hy] at this; exact this
      have bm1 := mul_lim (a := z0 - 9) (b := x) (K := 9) (V := 1000) (by omega) hxb
      have bm2 := mul_lim (a := z1 - 9) (b := y) (K := 9) (V := 1000) (by omega) hyb
      have n3 : (List.range k).map (fun j => (z0 - 9) * fa j + (z1 - 9) * fb j) ++ [(z0 - 9) * x + (z1 - 9) * y] = (List.range (k + 1)).map fun j => (z0 - 9) * fa j + (z1 - 9) * fb j := by rw [List.range_succ, List.map_append, ← hx, ← hy]; rfl
      obtain ⟨m1, hm1⟩ : ∃ m, (z0 - 9) * x = m := ⟨_, rfl⟩
      obtain ⟨m2, hm2⟩ : ∃ m, (z1 - 9) * y = m := ⟨_, rfl⟩
      rw [hm1] at bm1 n3
      rw [hm2] at bm2 n3
      obtain ⟨bm1a, bm1b⟩ := bm1
      obtain ⟨bm2a, bm2b⟩ := bm2
      have N3 := hide n3
      have hlenC : (List.map (fun j => (z0 - 9) * fa j + (z1 - 9) * fb j) (List.range k)).length ≤ 1000000 := by simp; omega
      have HLC := hide hlenC
      have hx1 := hx
      have hy1 := hy
      clear hx hy hxu hyq hxb hyb hcl1 hcl2 n3 hu1 hu2 hq1 hq2 hlenC hlenA hlenB hu hq hsz hsz3 hz3
      have hz4 := HB4.out.size
      have hk1 : (k : Int) < (k : Int) + 1 := by omega
      have hk2 : k < k + 1 := by omega
      have hz24 : w2.heap.size ≤ w4.heap.size := by omega
      have hS4 : Su w2.heap.size w4 w4 (.slice (some ⟨g1, 0, none⟩) (k + 1) gc1) (.slice (some ⟨g2, 0, none⟩) (k + 1) gc2) ((List.range (k + 1)).map fa) ((List.range (k + 1)).map fb) := ⟨HO1'.out, HO2.out, Below.refl _ _⟩
      have HS4 := hide hS4
      have kp : ∀ V : World, Su w2.heap.size w4 V (.slice (some ⟨g1, 0, none⟩) (k + 1) gc1) (.slice (some ⟨g2, 0, none⟩) (k + 1) gc2) ((List.range (k + 1)).map fa) ((List.range (k + 1)).map fb) → V.cell? ⟨g1, k, none⟩ = some (.int .i64 x) ∧ V.cell? ⟨g2, k, none⟩ = some (.int .i64 y) ∧ Su w2.heap.size w4 V (.slice (some ⟨g1, 0, none⟩) (k + 1) gc1) (.slice (some ⟨g2, 0, none⟩) (k + 1) gc2) ((List.range (k + 1)).map fa) ((List.range (k + 1)).map fb) := by
        intro V h
        refine ⟨?_, ?_, h⟩
        · rw [h.a.cell (by simp) hk2, at_fun _ _ _ hk2, hx1]
        · rw [h.b.cell (by simp) hk2, at_fun _ _ _ hk2, hy1]
      have KP := hide kp
      clear hS4 kp hx1 hy1
      have hwm1 : IntKind.i64.wrap m1 = m1 := IntWalk.i64_in _ (by omega)
      have hwm2 : IntKind.i64.wrap m2 = m2 := IntWalk.i64_in _ (by omega)
      have hwm3 : IntKind.i64.wrap (m1 + m2) = m1 + m2 := IntWalk.i64_in _ (by omega)
      go_wp2_with fail
      go_region_held3 (fun V => V.cell? ⟨g1, k, none⟩ = some (.int .i64 x) ∧ V.cell? ⟨g2, k, none⟩ = some (.int .i64 y) ∧ Su w2.heap.size w4 V (.slice (some ⟨g1, 0, none⟩) (k + 1) gc1) (.slice (some ⟨g2, 0, none⟩) (k + 1) gc2) ((List.range (k + 1)).map fa) ((List.range (k + 1)).map fb)) (first | assumption | (refine KP.out _ ?_; (repeat (first | exact HS4.out | exact (show _ ∧ _ ∧ Su _ _ _ _ _ _ _ by assumption).2.2 | exact hS5.out | refine Su.alloc ?_ hz24 _ | refine Su.drew ?_))))
        (first
          | (refine step_push1 (o := ⟨some 115, _, _, _, _, _⟩) (by rfl) (.tmp 100) (.tmp 114) (by rfl) w2.heap.size C _ (m1 + m2) w4.heap.size 1 (Own.drew_alloc hC4.out _) (by rfl) (by rfl) (one_drew _ _) HLC.out (by simp; omega) ?_; intro g3 gc3 w5 ho3 hgr3 hbk3; have hS5 := hide (Su.grown ((HS4.out.alloc hz24 _).drew) hz24 (Own.drew_alloc hC4.out _) hac3.out.symm hbc4.out.symm hgr3)))
      have hap1 := hide (fun n c : Nat => grow_apart' (n := n) (c := c) (Own.drew_alloc HO1'.out _) hac3.out.symm hbk3)
      have hap2 := hide (fun n c : Nat => grow_apart' (n := n) (c := c) (Own.drew_alloc HO2.out _) hbc4.out.symm hbk3)
      rw [N3.out] at ho3
      have HO3 := hide ho3
      have HBR := hide ((hbel.out.trans HB3.out).trans (HB4.out.trans hS5.out.bel))
      clear ho3 hgr3 hbk3
      go_wp2_with fail
      go_roundw
      case rel => exact ⟨_, _, _, k + 1, _, rfl, rfl, rfl, rfl, by go_num, by omega, hide HN.out.symm, hide hS5.out.a, hide hS5.out.b, by simpa using HO3, hab4, hide (hap1.out _ _), hide (hap2.out _ _), HBR⟩
      case measure => simp [intOf]; omega
    · have h2n := HP'.out.lo
      have h9n := HP'.out.hi
      have lfa : ∀ j, -1000 ≤ fa j ∧ fa j ≤ 1000 := by
        intro j
        rw [HFA.out]
        simp only
        have g0 := Int.emod_nonneg (atM us (j : Int)) (show (2001 : Int) ≠ 0 by omega)
        have g1 := Int.emod_lt_of_pos (atM us (j : Int)) (show (0 : Int) < 2001 by omega)
        omega
      have lfb : ∀ j, -1000 ≤ fb j ∧ fb j ≤ 1000 := by
        intro j
        rw [HFB.out]
        simp only
        have g0 := Int.emod_nonneg (atM vs (j : Int)) (show (2001 : Int) ≠ 0 by omega)
        have g1 := Int.emod_lt_of_pos (atM vs (j : Int)) (show (0 : Int) < 2001 by omega)
        omega
      have lfc : ∀ j, -18000 ≤ (z0 - 9) * fa j + (z1 - 9) * fb j ∧ (z0 - 9) * fa j + (z1 - 9) * fb j ≤ 18000 := by
        intro j
        have q1 := mul_lim (a := z0 - 9) (b := fa j) (K := 9) (V := 1000) (by omega) (lfa j)
        have q2 := mul_lim (a := z1 - 9) (b := fb j) (K := 9) (V := 1000) (by omega) (lfb j)
        omega
      have LA := hide (fun_lim (by omega) lfa xs.length); have LB := hide (fun_lim (by omega) lfb xs.length); have LC := hide (fun_lim (M := 18000) (by omega) lfc xs.length)
      have LF := hide (And.intro lfa (And.intro lfb lfc))
      clear lfa lfb lfc
      clear HA1 HA2 HM0 HM1 HM2 HFA HFB HFU HFV HWL HST
      have hke : k = xs.length := by omega
      subst hke
      have XL := hide (area_lin (xs := xs) (f := fa) (g := fb) (P := z0 - 9) (Q := z1 - 9))
      have ML := hide (mom_lin (xs := xs) (f := fa) (g := fb) (P := z0 - 9) (Q := z1 - 9) (c := z2))
      have la : ((List.range xs.length).map fa).length = xs.length := by simp
      have lb : ((List.range xs.length).map fb).length = xs.length := by simp
      have lc : ((List.range xs.length).map fun j => (z0 - 9) * fa j + (z1 - 9) * fb j).length = xs.length := by simp
      have hA' := hA.out
      have hB' := hB.out
      have hC' := hC.out
      obtain ⟨av, hav⟩ : ∃ v, (List.range xs.length).map fa = v := ⟨_, rfl⟩
      obtain ⟨bv, hbv⟩ : ∃ v, (List.range xs.length).map fb = v := ⟨_, rfl⟩
      obtain ⟨cv, hcv⟩ : ∃ v, ((List.range xs.length).map fun j => (z0 - 9) * fa j + (z1 - 9) * fb j) = v := ⟨_, rfl⟩
      rw [hav] at la hA' LA XL ML
      rw [hbv] at lb hB' LB XL ML
      rw [hcv] at lc hC' LC XL ML
      have LLA := hide la; have LLB := hide lb; have LLC := hide lc
      have hAL := hA'.isL (lim_FB LA.out (by omega))
      have hBL := hB'.isL (lim_FB LB.out (by omega))
      have hCL := hC'.isL (lim_FB LC.out (by omega))
      obtain ⟨ga, ca, rfl, hga, _, _⟩ := hA'.form LLA.out (by omega)
      obtain ⟨gb, cb, rfl, hgb, _, _⟩ := hB'.form LLB.out (by omega)
      obtain ⟨gc', cc, rfl, hgc, _, _⟩ := hC'.form LLC.out (by omega)
      have HAL := hide hAL; have HBL := hide hBL; have HCL := hide hCL
      obtain ⟨X, hX⟩ : ∃ z, dot xs av = z := ⟨_, rfl⟩
      obtain ⟨U, hU⟩ : ∃ z, dot xs bv = z := ⟨_, rfl⟩
      obtain ⟨V, hV⟩ : ∃ z, dot xs cv = z := ⟨_, rfl⟩
      obtain ⟨R, hR⟩ : ∃ z, dot xs (levL xs av z2) = z := ⟨_, rfl⟩
      obtain ⟨S, hS⟩ : ∃ z, dot xs (levL xs bv z2) = z := ⟨_, rfl⟩
      obtain ⟨T, hT⟩ : ∃ z, dot xs (levL xs cv z2) = z := ⟨_, rfl⟩
      have hlin1 : V = (z0 - 9) * X + (z1 - 9) * U := by rw [← hX, ← hU, ← hV]; exact XL.out
      have hlin2 : T = (z0 - 9) * R + (z1 - 9) * S := by rw [← hR, ← hS, ← hT]; exact ML.out
      have bX := dot_lim' HP'.out LA.out (by omega)
      have bU := dot_lim' HP'.out LB.out (by omega)
      have bR := dot_lim' HP'.out (lev_lim1 HP'.out LA.out (show 0 ≤ z2 by omega) (by omega) (by omega)) (by omega)
      have bS := dot_lim' HP'.out (lev_lim1 HP'.out LB.out (show 0 ≤ z2 by omega) (by omega) (by omega)) (by omega)
      rw [hX] at bX
      rw [hU] at bU
      rw [hR] at bR
      rw [hS] at bS
      have CX : ∀ Y, Below wr.heap.size wr Y → Calls Try.prog 41 #[.slice (some ⟨g, 0, none⟩) xs.length gc, .slice (some ⟨ga, 0, none⟩) xs.length ca] Y fun e w' => e = .returned (.tuple #[.int .i64 X, .int .i64 0]) ∧ Below Y.heap.size Y w' := fun Y hb => area_c HP'.out LLA.out (lim_more LA.out (by omega)) hX _ _ _ _ _ _ Y ((HL2.out.below hbel.out).below hb) (HAL.out.below hb)
      have CU : ∀ Y, Below wr.heap.size wr Y → Calls Try.prog 41 #[.slice (some ⟨g, 0, none⟩) xs.length gc, .slice (some ⟨gb, 0, none⟩) xs.length cb] Y fun e w' => e = .returned (.tuple #[.int .i64 U, .int .i64 0]) ∧ Below Y.heap.size Y w' := fun Y hb => area_c HP'.out LLB.out (lim_more LB.out (by omega)) hU _ _ _ _ _ _ Y ((HL2.out.below hbel.out).below hb) (HBL.out.below hb)
      have CV : ∀ Y, Below wr.heap.size wr Y → Calls Try.prog 41 #[.slice (some ⟨g, 0, none⟩) xs.length gc, .slice (some ⟨gc', 0, none⟩) xs.length cc] Y fun e w' => e = .returned (.tuple #[.int .i64 V, .int .i64 0]) ∧ Below Y.heap.size Y w' := fun Y hb => area_c HP'.out LLC.out (lim_more LC.out (by omega)) hV _ _ _ _ _ _ Y ((HL2.out.below hbel.out).below hb) (HCL.out.below hb)
      have CR : ∀ Y, Below wr.heap.size wr Y → Calls Try.prog 43 #[.slice (some ⟨g, 0, none⟩) xs.length gc, .slice (some ⟨ga, 0, none⟩) xs.length ca, .int .i64 z2] Y fun e w' => e = .returned (.tuple #[.int .i64 R, .int .i64 0]) ∧ Below Y.heap.size Y w' := fun Y hb => mom_c HP'.out LLA.out (lim_more LA.out (by omega)) (by omega) (by omega) hR _ _ _ _ _ _ Y ((HL2.out.below hbel.out).below hb) (HAL.out.below hb)
      have CS : ∀ Y, Below wr.heap.size wr Y → Calls Try.prog 43 #[.slice (some ⟨g, 0, none⟩) xs.length gc, .slice (some ⟨gb, 0, none⟩) xs.length cb, .int .i64 z2] Y fun e w' => e = .returned (.tuple #[.int .i64 S, .int .i64 0]) ∧ Below Y.heap.size Y w' := fun Y hb => mom_c HP'.out LLB.out (lim_more LB.out (by omega)) (by omega) (by omega) hS _ _ _ _ _ _ Y ((HL2.out.below hbel.out).below hb) (HBL.out.below hb)
      have CT : ∀ Y, Below wr.heap.size wr Y → Calls Try.prog 43 #[.slice (some ⟨g, 0, none⟩) xs.length gc, .slice (some ⟨gc', 0, none⟩) xs.length cc, .int .i64 z2] Y fun e w' => e = .returned (.tuple #[.int .i64 T, .int .i64 0]) ∧ Below Y.heap.size Y w' := fun Y hb => mom_c HP'.out LLC.out (lim_more LC.out (by omega)) (by omega) (by omega) hT _ _ _ _ _ _ Y ((HL2.out.below hbel.out).below hb) (HCL.out.below hb)
      have HCX := hide CX; have HCU := hide CU; have HCV := hide CV; have HCR := hide CR; have HCS := hide CS; have HCT := hide CT
      have HX1 := hide hX; have HR1 := hide hR
      have HLIN1 := hide hlin1; have HLIN2 := hide hlin2; have BX := hide bX; have BU := hide bU; have BR := hide bR; have BS := hide bS
      have HAV := hide hav
      have ht1 := ht.out.trans (sum_ones HP'.out HP'.out.up)
      have HT1 := hide ht1
      clear CX CU CV CR CS CT hX hU hV hR hS hT hlin1 hlin2 bX bU bR bS hav hbv hcv hA' hB' hC' hAL hBL hCL hA hB hC hab hac hbc XL ML ht ht1 LF la lb lc LC LLB LLC LB
      go_wp2_with fail
      refine (HCX.out _ (Below.refl _ _)).mono ?_
      rintro e w3 ⟨rfl, hb3⟩
      go_wp2_with fail
      refine (HCU.out _ hb3).mono ?_
      rintro e w4 ⟨rfl, hb4⟩
      have hc4 := back hb3 hb4
      clear hb4 hb3
      go_wp2_with fail
      refine (HCV.out _ hc4).mono ?_
      rintro e w5 ⟨rfl, hb5⟩
      have hc5 := back hc4 hb5
      clear hc4 hb5
      go_wp2_with fail
      refine (HCR.out _ hc5).mono ?_
      rintro e w6 ⟨rfl, hb6⟩
      have hc6 := back hc5 hb6
      clear hc5 hb6
      go_wp2_with fail
      refine (HCS.out _ hc6).mono ?_
      rintro e w7 ⟨rfl, hb7⟩
      have hc7 := back hc6 hb7
      clear hc6 hb7
      go_wp2_with fail
      refine (HCT.out _ hc7).mono ?_
      rintro e w8 ⟨rfl, hb8⟩
      have hc8 := back hc7 hb8
      clear hc7 hb8
      have hLw := (HL2.out.below hbel.out).below hc8
      have c0 : w8.cell? ⟨g, 0, none⟩ = some (.int .i64 (at_ xs 0)) := by have := isL_cell hLw (i := 0) (by omega); rwa [Nat.add_zero] at this
      have c1 : w8.cell? ⟨g, xs.length - 1, none⟩ = some (.int .i64 (at_ xs (xs.length - 1))) := by have := isL_cell hLw (i := xs.length - 1) (by omega); rwa [Nat.zero_add] at this
      have bp0 := HP'.out.bd 0 (by omega)
      have bp1 := HP'.out.bd (xs.length - 1) (by omega)
      have ht1 := HT1.out
      obtain ⟨p0, hp0⟩ : ∃ z, at_ xs 0 = z := ⟨_, rfl⟩
      obtain ⟨p1, hp1⟩ : ∃ z, at_ xs (xs.length - 1) = z := ⟨_, rfl⟩
      rw [hp0] at c0 bp0 ht1
      rw [hp1] at c1 bp1 ht1
      clear hp0 hp1
      subst ht1
      have bX := BX.out; have bU := BU.out; have bR := BR.out; have bS := BS.out
      have bm3 := mul_lim (a := z0 - 9) (b := X) (K := 9) (V := 4320000000 * 1000) (by omega) (by omega)
      have bm4 := mul_lim (a := z1 - 9) (b := U) (K := 9) (V := 4320000000 * 1000) (by omega) (by omega)
      have bm5 := mul_lim (a := z0 - 9) (b := R) (K := 9) (V := 4320000000 * (1000 * 100000)) (by omega) (by omega)
      have bm6 := mul_lim (a := z1 - 9) (b := S) (K := 9) (V := 4320000000 * (1000 * 100000)) (by omega) (by omega)
      have hl1 := HLIN1.out; have hl2 := HLIN2.out
      obtain ⟨m3, hm3⟩ : ∃ z, (z0 - 9) * X = z := ⟨_, rfl⟩
      obtain ⟨m4, hm4⟩ : ∃ z, (z1 - 9) * U = z := ⟨_, rfl⟩
      obtain ⟨m5, hm5⟩ : ∃ z, (z0 - 9) * R = z := ⟨_, rfl⟩
      obtain ⟨m6, hm6⟩ : ∃ z, (z1 - 9) * S = z := ⟨_, rfl⟩
      rw [hm3] at bm3 hl1
      rw [hm4] at bm4 hl1
      rw [hm5] at bm5 hl2
      rw [hm6] at bm6 hl2
      subst hl1 hl2
      have k1 : IntKind.i64.wrap m3 = m3 := IntWalk.i64_in _ (by omega)
      have k2 : IntKind.i64.wrap m4 = m4 := IntWalk.i64_in _ (by omega)
      have k3 : IntKind.i64.wrap m5 = m5 := IntWalk.i64_in _ (by omega)
      have k4 : IntKind.i64.wrap m6 = m6 := IntWalk.i64_in _ (by omega)
      have k5 : IntKind.i64.wrap (m3 + m4) = m3 + m4 := IntWalk.i64_in _ (by omega)
      have k6 : IntKind.i64.wrap (m5 + m6) = m5 + m6 := IntWalk.i64_in _ (by omega)
      have k7 : IntKind.i64.wrap ((xs.length : Int) - 1) = (xs.length : Int) - 1 := IntWalk.i64_in _ (by omega)
      have k8 : IntKind.i64.wrap (p1 - p0) = p1 - p0 := IntWalk.i64_in _ (by omega)
      have k9 : IntKind.i64.wrap (36 * (p1 - p0)) = 36 * (p1 - p0) := IntWalk.i64_in _ (by omega)
      have F1 : (0 : Int) ≤ (xs.length : Int) - 1 := by omega
      have F2 : ((xs.length : Int) - 1).toNat = xs.length - 1 := by omega
      have F3 : xs.length - 1 < xs.length := by omega
      have F4 : (xs.length : Int) - 1 < xs.length := by omega
      have F5 : 0 < xs.length := by omega
      have F6 : (0 : Int) < xs.length := by omega
      have HLw := hide hLw; have HC8 := hide hc8
      have HSZ := hide hsz
      clear hLw hc8 bp0 bp1 bX bU bR bS bm3 bm4 bm5 bm6 BX BU BR BS HT1 HLIN1 HLIN2 hsz HCX HCU HCV HCR HCS HCT
      go_wp2_with fail
      go_quiet (fail)
      have e3 : w8.cell? ⟨W.heap.size + 1, 3, none⟩ = some (.int .i64 x3) := ((HK2'.out.below hbel.out).below HC8.out).cell 3
      clear c0 c1 k1 k2 k3 k4 k5 k6 k7 k8 k9 F1 F2 F4
      go_wp2_with fail
      refine (mod_w x3 xs.length _ f3 (by omega) (by omega)).mono ?_
      rintro e w' ⟨rfl, rfl⟩
      have t0 := Int.emod_nonneg x3 (show (xs.length : Int) ≠ 0 by omega)
      have t1 := Int.emod_lt_of_pos x3 (show (0 : Int) < xs.length by omega)
      obtain ⟨at', hat⟩ : ∃ z, x3 % (xs.length : Int) = z := ⟨_, rfl⟩
      rw [hat] at t0 t1 ⊢
      clear hat e3
      obtain ⟨wq, hwq⟩ : ∃ z, w8.drewN nq = z := ⟨_, rfl⟩
      have hcq := below_drewN HC8.out nq
      have hLq := HLw.out.drewN nq
      rw [hwq] at hcq hLq ⊢
      have HCQ := hide hcq; have HLQ := hide hLq
      clear hwq hcq hLq
      go_wp2_with fail
      refine (Part_w (some ⟨g, 0, none⟩) xs.length gc xs at' _ HLQ.out ⟨by omega, by omega⟩).mono ?_
      rintro e w9 ⟨v1, v2, rfl, hv1, hv2, hb9⟩
      have hB9 := HB2.out.trans ((hbel.out.trans (back HCQ.out hb9 |>.mono (HSZ.out))).mono HB2.out.size)
      have HB9 := hide hB9
      have HC9 := hide (back HCQ.out hb9)
      clear hB9
      rcases prt_pos HP'.out at' with hE | hE
      · obtain ⟨_, ha1, ha2, hag⟩ := prt_ok hE
        obtain ⟨m, rfl⟩ : ∃ m : Nat, at' = (m : Int) := ⟨at'.toNat, by omega⟩
        rw [Int.toNat_natCast] at ha2 hag
        unfold prtA at hv1
        unfold prtB at hv2
        rw [hE, if_pos rfl, Int.toNat_natCast] at hv1 hv2
        rw [hE]
        have pf := HP'.out.take (m := m + 1) (by omega) (by omega)
        have pb := HP'.out.drop ha2
        have lf : (xs.take (m + 1)).length = m + 1 := by rw [List.length_take]; omega
        have lb : (xs.drop m).length = xs.length - m := List.length_drop
        have laf : (av.take (m + 1)).length = m + 1 := by rw [List.length_take, LLA.out]; omega
        have lab : (av.drop m).length = xs.length - m := by rw [List.length_drop, LLA.out]
        obtain ⟨o1, d1, rfl, _⟩ := id hv1
        obtain ⟨o2, d2, rfl, _⟩ := id hv2
        rw [lf] at hv1
        rw [lb] at hv2
        rw [lf, lb]
        have hcap : xs.length ≤ ca ∧ ca ≤ maxLen := by
          obtain ⟨_, _, hv, h1, h2, _⟩ := HAL.out
          obtain ⟨_, _, rfl⟩ := Value.slice.inj hv
          rw [LLA.out] at h1
          exact ⟨h1, h2⟩
        obtain ⟨hcap1, hcap2⟩ := hcap
        unfold maxLen at hcap2
        obtain ⟨J, hJ⟩ : ∃ z, dot (xs.take (m + 1)) (av.take (m + 1)) = z := ⟨_, rfl⟩
        obtain ⟨M, hM⟩ : ∃ z, dot (xs.drop m) (av.drop m) = z := ⟨_, rfl⟩
        obtain ⟨O, hO⟩ : ∃ z, dot (xs.take (m + 1)) (levL (xs.take (m + 1)) (av.take (m + 1)) z2) = z := ⟨_, rfl⟩
        obtain ⟨Z, hZ⟩ : ∃ z, dot (xs.drop m) (levL (xs.drop m) (av.drop m) z2) = z := ⟨_, rfl⟩
        have hXX : X = J + M := by rw [← hJ, ← hM, ← HX1.out]; exact (area_parts LLA.out ha2 hag).symm
        have hRR : R = O + Z := by rw [← hO, ← hZ, ← HR1.out]; exact (mom_parts LLA.out ha2 hag).symm
        have lat := lim_take LA.out (by omega) (m + 1)
        have lad := lim_drop LA.out m
        have bJ := dot_lim' pf lat (by omega)
        have bM := dot_lim' pb lad (by omega)
        have bO := dot_lim' pf (lev_lim1 pf lat (show 0 ≤ z2 by omega) (by omega) (by omega)) (by omega)
        have bZ := dot_lim' pb (lev_lim1 pb lad (show 0 ≤ z2 by omega) (by omega) (by omega)) (by omega)
        rw [hJ] at bJ
        rw [hM] at bM
        rw [hO] at bO
        rw [hZ] at bZ
        have IA : ∀ Y, Below w9.heap.size w9 Y → IsL Y (.slice (some ⟨ga, 0, none⟩) (m + 1) (m + 1)) (av.take (m + 1)) := by
          intro Y hb
          have := IsLB.part ((HAL.out.below HC9.out).below hb) (i := 0) (m := m + 1) (c := m + 1) (by rw [LLA.out]; omega) (by omega) (Nat.le_refl _) (by unfold maxLen; omega)
          rwa [List.drop_zero] at this
        have IB : ∀ Y, Below w9.heap.size w9 Y → IsL Y (.slice (some ⟨ga, m, none⟩) (xs.length - m) (ca - m)) (av.drop m) := by
          intro Y hb
          have := IsLB.back' ((HAL.out.below HC9.out).below hb) (i := m) (by rw [LLA.out]; omega)
          rwa [LLA.out, Nat.zero_add] at this
        have C1 : ∀ Y, Below w9.heap.size w9 Y → Calls Try.prog 41 #[.slice o1 (m + 1) d1, .slice (some ⟨ga, 0, none⟩) (m + 1) (m + 1)] Y fun e w' => e = .returned (.tuple #[.int .i64 J, .int .i64 0]) ∧ Below Y.heap.size Y w' := fun Y hb => area_c pf (by rw [laf, lf]) (lim_more lat (by omega)) hJ _ _ _ _ _ _ Y (IsL.below hv1 hb) (IA Y hb)
        have C2 : ∀ Y, Below w9.heap.size w9 Y → Calls Try.prog 41 #[.slice o2 (xs.length - m) d2, .slice (some ⟨ga, m, none⟩) (xs.length - m) (ca - m)] Y fun e w' => e = .returned (.tuple #[.int .i64 M, .int .i64 0]) ∧ Below Y.heap.size Y w' := fun Y hb => area_c pb (by rw [lab, lb]) (lim_more lad (by omega)) hM _ _ _ _ _ _ Y (IsL.below hv2 hb) (IB Y hb)
        have C3 : ∀ Y, Below w9.heap.size w9 Y → Calls Try.prog 43 #[.slice o1 (m + 1) d1, .slice (some ⟨ga, 0, none⟩) (m + 1) (m + 1), .int .i64 z2] Y fun e w' => e = .returned (.tuple #[.int .i64 O, .int .i64 0]) ∧ Below Y.heap.size Y w' := fun Y hb => mom_c pf (by rw [laf, lf]) (lim_more lat (by omega)) (by omega) (by omega) hO _ _ _ _ _ _ Y (IsL.below hv1 hb) (IA Y hb)
        have C4 : ∀ Y, Below w9.heap.size w9 Y → Calls Try.prog 43 #[.slice o2 (xs.length - m) d2, .slice (some ⟨ga, m, none⟩) (xs.length - m) (ca - m), .int .i64 z2] Y fun e w' => e = .returned (.tuple #[.int .i64 Z, .int .i64 0]) ∧ Below Y.heap.size Y w' := fun Y hb => mom_c pb (by rw [lab, lb]) (lim_more lad (by omega)) (by omega) (by omega) hZ _ _ _ _ _ _ Y (IsL.below hv2 hb) (IB Y hb)
        obtain ⟨jE, jL⟩ := joi_back HP'.out (by omega) ha2 hag
        have C5 : ∀ Y, Below w9.heap.size w9 Y → Calls Try.prog 49 #[.slice o1 (m + 1) d1, .slice o2 (xs.length - m) d2] Y fun e w' => ∃ v, e = .returned (.tuple #[v, .int .i64 0]) ∧ IsL w' v xs ∧ Below Y.heap.size Y w' := by
          intro Y hb
          have := Join_w o1 o2 (m + 1) (xs.length - m) d1 d2 (xs.take (m + 1)) (xs.drop m) Y (IsL.below hv1 hb) (IsL.below hv2 hb)
          unfold Joined at this
          rwa [jE, jL] at this
        have HC1 := hide C1; have HC2 := hide C2; have HC3 := hide C3; have HC4 := hide C4; have HC5 := hide C5
        clear C1 C2 C3 C4 C5 IA IB jE jL lat lad hJ hM hO hZ hv1 hv2 lf lb laf lab pf pb hm3 hm4 hm5 hm6 hag hE
        subst hXX hRR
        have k1 : IntKind.i64.wrap (J + M) = J + M := IntWalk.i64_in _ (by omega)
        have k2 : IntKind.i64.wrap (O + Z) = O + Z := IntWalk.i64_in _ (by omega)
        clear bJ bM bO bZ
        have k3 : IntKind.i64.wrap ((m : Int) + 1) = (m : Int) + 1 := IntWalk.i64_in _ (by omega)
        have e1 : ((m : Int) + 1).toNat = m + 1 := by omega
        have e2 : m + 1 ≤ ca := by omega
        have e3 : m < ca := by omega
        have e4 : m < xs.length := by omega
        have e5 : m ≤ xs.length := by omega
        have e6 : m + 1 ≤ xs.length := by omega
        have e7 : (0 : Int) ≤ (m : Int) + 1 := by omega
        have e8 : (m : Int) + 1 ≤ ca := by omega
        have e9 : (m : Int) ≤ xs.length := by omega
        have e10 : ¬ (ca : Int) < (m : Int) + 1 := by omega
        have e11 : -1 ≤ (m : Int) := by omega
        go_wp2_with fail
        refine (HC1.out _ (Below.refl _ _)).mono ?_
        rintro e w10 ⟨rfl, hb10⟩
        go_wp2_with fail
        refine (HC2.out _ hb10).mono ?_
        rintro e w11 ⟨rfl, hb11⟩
        have hc11 := back hb10 hb11
        clear hb10 hb11
        go_wp2_with fail
        refine (HC3.out _ hc11).mono ?_
        rintro e w12 ⟨rfl, hb12⟩
        have hc12 := back hc11 hb12
        clear hc11 hb12
        go_wp2_with fail
        refine (HC4.out _ hc12).mono ?_
        rintro e w13 ⟨rfl, hb13⟩
        have hc13 := back hc12 hb13
        clear hc12 hb13
        go_wp2_with fail
        refine (HC5.out _ hc13).mono ?_
        rintro e w14 ⟨vj, rfl, hvj, hb14⟩
        have hc14 := back hc13 hb14
        have LQ := hide (((HL2.out.below hbel.out).below HC9.out).below hc14)
        have HVJ := hide hvj
        obtain ⟨oj, dj, rfl, _⟩ := id hvj
        have HC14 := hide hc14
        clear hc13 hb14 hvj hc14 HC1 HC2 HC3 HC4 HC5 e1 e2 e3 e4 e5 e6 e7 e8 e9 e10 e11 k3
        go_wp2_with (first
          | (go_at_call 38; refine (sameInts_w _ _ xs _ HVJ.out LQ.out).mono ?_; rintro e w' ⟨rfl, qn, rfl⟩)
          | (go_at_call 32; refine (sane_w _).mono ?_; rintro e w15 ⟨rfl, hb15⟩))
        go_ret
        exact ⟨rfl, back (below_drewN (back HB9.out HC14.out) _) hb15⟩
      · rw [hE]
        go_wp2_with (go_at_call 32; refine (sane_w _).mono ?_; rintro e w10 ⟨rfl, hb10⟩)
        go_ret
        exact ⟨rfl, back HB9.out hb10⟩
end Go.Proofs.Ytlpoenoijmifdaa
