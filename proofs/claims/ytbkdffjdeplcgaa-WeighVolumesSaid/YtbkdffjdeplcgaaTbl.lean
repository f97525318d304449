import Derived.Test.YtbkdffjdeplcgaaStq
import Derived.Test.YtbkdffjdeplcgaaGri
import Derived.Test.YtbkdffjdeplcgaaLsc
set_option linter.unusedVariables false
set_option linter.unusedSimpArgs false
namespace Go.Proofs.Ytbkdffjdeplcgaa
open Go.RowKit


theorem infoSl : (Try.prog.info? 38).map (fun i => (i.zero, i.size, i.bytes)) = some (some (.slice none 0 0), 1, 24) := by kernel_rfl

/-- v is a slice of the call's own, in blocks from B on, whose elements are the slices vs. -/
def OwnS (B : Nat) (w : World) (v : Value) (vs : List Value) : Prop := w.ownsRow B 38 1 v vs.length vs

theorem pushS_w {ops : Array Oper} {rest : List Oper} {o : Oper} {a : Act} {Q : Exit → Act → World → Prop} (hgd : o.guard = none) (s x : Operand)
    (ho : o.op = .call { callee := .builtin .append, args := #[s, x], argTypes := #[68, 68] })
    (B : Nat) (W : World) (v : Value) (vs : List Value) (y : Value) (hown : OwnS B W v vs) (h1 : y.oneCell' = true) (hs : a.eval s = v) (hx : a.eval x = .slice (some ⟨W.heap.size, 0, none⟩) 1 1) (hl : vs.length ≤ 1000000) (hB : B ≤ W.heap.size)
    (h : ∀ v' w', OwnS B w' v' (vs ++ [y]) → (W.alloc (.cells #[y] 38)).grownBy w' v.ownBlock → (v'.ownBlock = v.ownBlock ∨ v'.ownBlock = some (W.heap.size + 1)) → wpList Try.prog ops Q rest (a.put o.dst v') w') :
    wpList Try.prog ops Q (o :: rest) a (W.alloc (.cells #[y] 38)) := by
  obtain ⟨i0, hi, hz0, hz1, hz2⟩ := info_parts infoSl
  refine wpList_append_own_at _ hgd s x 68 ho B 38 i0 _ 1 24 Try.underlying68 hi hz0 hz1 hz2 rfl (by decide) v vs.length vs hs (World.ownsRow.alloc hown _) ⟨W.heap.size, 0, none⟩ 1 1 [y] hx rfl (cell_one_new _ _ _) (by simpa using h1) (by simp only [maxLen]; omega) (by omega) (by simp; omega) ?_
  intro v' w' h1 h2 h3 h4
  refine h v' w' ?_ h2 (by simpa using h4)
  unfold OwnS
  simpa using h1

/-- What a table has drawn up. -/
def TableOf (w w' : World) (e : Ending) : Prop :=
  ∃ a1 c1 a2 c2 a3 c3 vs S T H, e = .returned (.agg #[.slice a1 S.length c1, .slice a2 T.length c2, .slice a3 S.length c3]) ∧ IsL w' (.slice a1 S.length c1) S ∧ IsL w' (.slice a2 T.length c2) T ∧ IsRB w'.heap.size w' (.slice a3 S.length c3) vs H ∧
    Stp 9000 S ∧ 2 ≤ S.length ∧ S.length ≤ 9 ∧ Stp 1800 T ∧ 2 ≤ T.length ∧ T.length ≤ 7 ∧ H.length = S.length ∧ (∀ r ∈ H, r.length = T.length ∧ ∀ x ∈ r, 0 ≤ x ∧ x ≤ 20000) ∧ Below w.heap.size w w'

theorem below_gb {B : Nat} {w w' : World} (hb : Below w.heap.size w w') : w.grownBy w' none := ⟨hb.os, hb.tape, hb.output, hb.size, fun k hk _ => hb.block k hk⟩
theorem set_gb (w : World) (p : Addr) (u : Value) : w.grownBy (w.setCell p u) (some p.block) := ⟨rfl, rfl, rfl, by simp [World.setCell], fun k _ hk => Below.heap_setCell _ _ _ _ (fun e => hk (by rw [e]))⟩
theorem OwnS.gb {B : Nat} {w w' : World} {v : Value} {vs : List Value} {row : Option Nat} (h : OwnS B w v vs) (hg : w.grownBy w' row) (hne : ∀ k, v.ownBlock = some k → some k ≠ row) : OwnS B w' v vs := by
  refine World.ownsRow.kept h hg ?_
  cases e : v.ownBlock with
  | none => exact .inl rfl
  | some k => exact .inr (hne k e)
theorem IsLB.gb {B : Nat} {w w' : World} {v : Value} {xs : List Int} {row : Option Nat} (h : IsLB B w v xs) (hB : B ≤ w.heap.size) (hne : ∀ k, v.ownBlock = some k → some k ≠ row) (hg : w.grownBy w' row) : IsLB B w' v xs := by
  obtain ⟨a, cap, hv, h1, h2, h3, h4⟩ := h
  refine ⟨a, cap, hv, h1, h2, h3, fun he => ?_⟩
  obtain ⟨b, off, ha, hlt, hc⟩ := h4 he
  refine ⟨b, off, ha, hlt, fun i hi => ?_⟩
  rw [World.cell?_of_block (hg.block b (by omega) (hne b (by rw [hv, ha]; rfl)))]
  exact hc i hi
theorem IsLB.ownLt {B : Nat} {w : World} {v : Value} {xs : List Int} (h : IsLB B w v xs) (hne : xs ≠ []) : ∀ k, v.ownBlock = some k → k < B := by
  obtain ⟨a, cap, hv, h1, h2, h3, h4⟩ := h
  obtain ⟨b, off, ha, hlt, _⟩ := h4 hne
  intro k hk
  rw [hv, ha] at hk
  cases hk; exact hlt

set_option maxRecDepth 100000 in
set_option maxHeartbeats 4000000 in
theorem table_w (a1 a2 a3 : Option Addr) (n1 n2 n3 c1 c2 c3 : Nat) (ls ms hs : List Int) (w : World) (i1 : IsL w (.slice a1 n1 c1) ls) (i2 : IsL w (.slice a2 n2 c2) ms) (i3 : IsL w (.slice a3 n3 c3) hs)
    (m1 : ls.length ≤ 1000000000000000000) (m2 : ms.length ≤ 1000000000000000000) (m3 : hs.length ≤ 1000000000000000000) :
    Calls Try.prog 56 #[.slice a1 n1 c1, .slice a2 n2 c2, .slice a3 n3 c3] w fun e w' => TableOf w w' e := by
  have P1 : ∀ W' : World, Below w.heap.size w W' → Calls Try.prog 51 #[.slice a1 n1 c1, .int .i64 9, .int .i64 3000] W' fun e w' => Drawn W'.heap.size 3000 9 e W' w' := fun W' hb => places_mk a1 n1 c1 ls 9 3000 W' (i1.below hb) m1 (by omega) (by omega) (by omega) (by omega)
  have P2 : ∀ W' : World, Below w.heap.size w W' → Calls Try.prog 51 #[.slice a2 n2 c2, .int .i64 7, .int .i64 600] W' fun e w' => Drawn W'.heap.size 600 7 e W' w' := fun W' hb => places_mk a2 n2 c2 ms 7 600 W' (i2.below hb) m2 (by omega) (by omega) (by omega) (by omega)
  have A := fun (i : Int) (hi : FB i) (W' : World) (hb : Below w.heap.size w W') => at_w a3 n3 c3 hs i W' (i3.below hb) hi m3
  have M := fun (x : Int) (hx : FB x) (W' : World) => mod_w x 20001 W' hx (by omega) (by omega)
  have HFB : Hid (∀ x ∈ hs, FB x) := by obtain ⟨_, _, _, _, _, h3, _⟩ := i3; exact h3
  have HP1 := hide P1; have HP2 := hide P2; have HA := hide A; have HM := hide M
  clear P1 P2 A M i1 i2 i3 m1 m2 m3
  go_enter Try.func56, Try.ntmps56
  go_wp2_with fail
  refine (HP1.out _ ((Below.refl _ _).alloc (Nat.le_refl _) _)).mono ?_
  rintro e w1 ⟨v1, S, rfl, ho1, hs1, s2, s9, hb1⟩
  have hz1 : w.heap.size + 1 ≤ w1.heap.size := by have := hb1.size; simpa using this
  have hB1 : Below w.heap.size w w1 := ((Below.refl _ _).alloc (Nat.le_refl _) _).trans (hb1.mono (by simp))
  have hp1 := hs1.pos s2 (by omega) (by omega) (by omega)
  have hr1 : Blk w1 w.heap.size 70 #[.slice none 0 0, .slice none 0 0, .slice none 0 0] := (hb1.block w.heap.size (by simp)).trans (Blk.new w _ _)
  have hL1 := ho1.isL (pos_FB hp1)
  obtain ⟨g1, k1, rfl, hg1, hg1', _⟩ := ho1.form rfl (by omega)
  have HL1 := hide hL1; have HB1 := hide hB1; have HS1 := hide hs1; have HR1 := hide hr1
  clear hL1 hB1 hs1 ho1 hb1 hp1 hr1
  go_wp2_with fail
  refine (HP2.out _ HB1.out).mono ?_
  rintro e w2 ⟨v2, T, rfl, ho2, hs2, t2, t7, hb2⟩
  have hz2 := hb2.size
  have hp2 := hs2.pos t2 (by omega) (by omega) (by omega)
  have hL2 := ho2.isL (pos_FB hp2)
  obtain ⟨g2, k2, rfl, hg2, hg2', _⟩ := ho2.form rfl (by omega)
  have HL1' := hide (HL1.out.below hb2); have HL2 := hide hL2; have HB2 := hide (back HB1.out hb2); have HS2 := hide hs2; have HR2 := hide ((hb2.block w.heap.size (by omega)).trans HR1.out : Blk w2 w.heap.size 70 #[.slice none 0 0, .slice none 0 0, .slice none 0 0])
  clear hL2 hs2 ho2 hb2 hp2 HL1 HB1 HR1
  go_wp2_with fail
  obtain ⟨tb, htb⟩ : ∃ tb, w2.heap.size = tb := ⟨_, rfl⟩
  obtain ⟨w3, hw3⟩ : ∃ w3, w2.alloc (.cells #[.slice (some ⟨g1, 0, none⟩) S.length k1, .slice (some ⟨g2, 0, none⟩) T.length k2, .slice none 0 0] 70) = w3 := ⟨_, rfl⟩
  have k3 : Blk w3 tb 70 #[.slice (some ⟨g1, 0, none⟩) S.length k1, .slice (some ⟨g2, 0, none⟩) T.length k2, .slice none 0 0] := by rw [← hw3, ← htb]; exact Blk.new w2 _ _
  have b3 : Below w2.heap.size w2 w3 := by rw [← hw3]; exact (Below.refl _ _).alloc (Nat.le_refl _) _
  have z3 : w3.heap.size = tb + 1 := by rw [← hw3, ← htb]; simp
  rw [hw3, htb]
  have HK3 := hide k3; have HB3 := hide (back HB2.out b3); have HL13 := hide (HL1'.out.below b3); have HL23 := hide (HL2.out.below b3); have HR3 := hide ((b3.block w.heap.size (by omega)).trans HR2.out : Blk w3 w.heap.size 70 #[.slice none 0 0, .slice none 0 0, .slice none 0 0])
  have hzw : w.heap.size < tb := by omega
  have hg1t : g1 < tb := by omega
  have hg2t : g2 < tb := by omega
  have HZ3 := hide z3
  have hg1w : w.heap.size < g1 := by simp at hg1; omega
  have hg2w : w.heap.size < g2 := by omega
  clear k3 b3 z3 hw3 htb HL1' HL2 HB2 HR2 hz1 hz2 hg1 hg2 hg1' hg2'
  go_loopw [8] (fun i wr => ∃ (k : Nat) (hv : Value) (vs : List Value) (H : List (List Int)), i = .int .i64 k ∧ k ≤ S.length ∧ Hid (Blk wr tb 70 #[.slice (some ⟨g1, 0, none⟩) S.length k1, .slice (some ⟨g2, 0, none⟩) T.length k2, hv]) ∧ Hid (OwnS (tb + 1) wr hv vs) ∧ Hid (H.length = k) ∧ Hid (vs.length = k) ∧
      Hid (∀ j, j < k → IsLB wr.heap.size wr (vs[j]?.getD undef) (H[j]?.getD []) ∧ Fresh (tb + 1) (vs[j]?.getD undef) ∧ Apart (vs[j]?.getD undef) hv ∧ (vs[j]?.getD undef).oneCell' = true) ∧ Hid (∀ r ∈ H, r.length = T.length ∧ ∀ x ∈ r, 0 ≤ x ∧ x ≤ 20000) ∧ Hid (Only (fun j => j = tb) w3 wr)) (fun i _ => S.length - (intOf i).toNat)
  case atStart => exact ⟨0, _, [], [], rfl, Nat.zero_le _, HK3, hide (World.ownsRow_nil _ _ _ _), hide rfl, hide rfl, hide (by intro j hj; omega), hide (by simp), hide (Only.refl _ _)⟩
  case round =>
    obtain ⟨k, hv, vs, H, rfl, hk, hblk, hown, hHl, hvl, hrows, hrr, ho⟩ := hrel
    obtain ⟨wo, rfl⟩ : ∃ wo : World, wo = wr := ⟨_, rfl⟩
    have c0 : wo.cell? ⟨tb, 0, none⟩ = some (.slice (some ⟨g1, 0, none⟩) S.length k1) := hblk.out.cell 0
    have c1 : wo.cell? ⟨tb, 1, none⟩ = some (.slice (some ⟨g2, 0, none⟩) T.length k2) := hblk.out.cell 1
    have c2 : wo.cell? ⟨tb, 2, none⟩ = some hv := hblk.out.cell 2
    have hzo : tb + 1 ≤ wo.heap.size := by have := ho.out.size; have := HZ3.out; omega
    have hbo := back HB3.out (Below.refl w3.heap.size w3)
    have hBo : Below w.heap.size w wo := hbo.trans (ho.out.below (by have := HZ3.out; omega) (by intro j hj; omega))
    have HBO := hide hBo
    clear hbo hBo
    by_cases hlt : k < S.length
    · have hl3 : (k : Int) < S.length := by omega
      have hkT : (k : Int) * (T.length : Int) ≤ 8 * (T.length : Int) := Int.mul_le_mul_of_nonneg_right (by omega) (by omega)
      have hkT0 : 0 ≤ (k : Int) * (T.length : Int) := Int.mul_nonneg (by omega) (by omega)
      obtain ⟨p, hp⟩ : ∃ p, (k : Int) * (T.length : Int) = p := ⟨_, rfl⟩
      rw [hp] at hkT hkT0
      have hp56 : p ≤ 56 := by omega
      clear hkT
      go_wp2_with fail
      go_loopw [9, 10] (fun r j wr => ∃ (q : Nat) (rv : Value) (xs : List Int), rv = r ∧ j = .int .i64 q ∧ q ≤ T.length ∧ Hid (Own wo.heap.size wr rv xs) ∧ Hid (xs.length = q) ∧ Hid (∀ x ∈ xs, 0 ≤ x ∧ x ≤ 20000) ∧ Hid (Below wo.heap.size wo wr)) (fun _ j _ => T.length - (intOf j).toNat)
      case atStart => exact ⟨0, _, [], rfl, rfl, Nat.zero_le _, hide (Own.nil _ _), hide rfl, hide (by simp), hide (Below.refl _ _)⟩
      case round =>
        obtain ⟨q, rv, xs, rfl, rfl, hq, hrow, hxl, hxb, hbi⟩ := hrel
        have d0 : wr.cell? ⟨tb, 0, none⟩ = some (.slice (some ⟨g1, 0, none⟩) S.length k1) := (hbi.out.cell (p := ⟨tb, 0, none⟩) (by show tb < _; omega)).trans c0
        have d1 : wr.cell? ⟨tb, 1, none⟩ = some (.slice (some ⟨g2, 0, none⟩) T.length k2) := (hbi.out.cell (p := ⟨tb, 1, none⟩) (by show tb < _; omega)).trans c1
        have d2 : wr.cell? ⟨tb, 2, none⟩ = some hv := (hbi.out.cell (p := ⟨tb, 2, none⟩) (by show tb < _; omega)).trans c2
        have hsi := hbi.out.size
        by_cases hql : q < T.length
        · have hl4 : (q : Int) < T.length := by omega
          have hA := HA.out (p + q) ⟨by omega, by omega⟩ wr (back HBO.out hbi.out)
          have hfa := atM_FB HFB.out (p + q)
          obtain ⟨y, hy⟩ : ∃ y, atM hs (p + q) = y := ⟨_, rfl⟩
          rw [hy] at hA hfa
          have hMM := HM.out y hfa
          have y1 := Int.emod_nonneg y (show (20001 : Int) ≠ 0 by omega)
          have y2 := Int.emod_lt_of_pos y (show (0 : Int) < 20001 by omega)
          obtain ⟨z, hz⟩ : ∃ z, y % 20001 = z := ⟨_, rfl⟩
          rw [hz] at hMM y1 y2
          have HAA := hide hA; have HMM := hide hMM
          have hlen : xs.length ≤ 1000000 := by rw [hxl.out]; omega
          clear hA hMM hy hz
          go_wp2_with (first
            | (go_at_call 55; refine HAA.out.mono ?_; rintro e w' ⟨rfl, rfl⟩)
            | (go_at_call 52; refine (HMM.out _).mono ?_; rintro e w' ⟨rfl, rfl⟩)
            | (at_builtin; refine push_w rfl (.tmp 30) (.tmp 41) rfl wo.heap.size wr rv xs z hrow.out rfl rfl hlen hsi ?_; intro v' w5 hown5 hg5 _))
          go_roundw
          case rel => exact ⟨q + 1, _, xs ++ [z], rfl, by go_num, by omega, hide hown5, hide (by rw [List.length_append, hxl.out]; rfl), hide (by intro x hx; rcases List.mem_append.1 hx with hx | hx; exact hxb.out x hx; simp at hx; omega), hide (hbi.out.trans (grow_below hrow.out hsi hg5))⟩
          case measure => simp [intOf]; omega
        · have hl4 : ¬ ((q : Int) < T.length) := by omega
          obtain rfl : q = T.length := by omega
          have hrl : IsL wr rv xs := hrow.out.isL (fun x hx => by have := hxb.out x hx; exact ⟨by omega, by omega⟩)
          obtain ⟨rg, rc, rfl, hrg1, hrg2, _⟩ := hrow.out.form hxl.out (by omega)
          have hvlt : ∀ j, hv.ownBlock = some j → tb + 1 ≤ j ∧ j < wo.heap.size := World.ownsRow.lt hown.out
          have hor : OwnS (tb + 1) wr hv vs := hown.out.gb (below_gb (B := 0) hbi.out) (by intro j _; simp)
          have hkr : Blk wr tb 70 #[.slice (some ⟨g1, 0, none⟩) S.length k1, .slice (some ⟨g2, 0, none⟩) T.length k2, hv] := hblk.out.below hbi.out
          have hlen : vs.length ≤ 1000000 := by rw [hvl.out]; omega
          have hBt : tb + 1 ≤ wr.heap.size := by omega
          have HRL := hide hrl; have HVLT := hide hvlt; have HOR := hide hor; have HKR := hide hkr
          clear hrl hvlt hor hkr
          go_wp2_with (at_builtin; refine pushS_w rfl (.tmp 44) (.tmp 46) rfl (tb + 1) wr hv vs (.slice (some ⟨rg, 0, none⟩) T.length rc) HOR.out rfl rfl rfl hlen hBt ?_; intro v' w5 hown5 hg5 hbk5; obtain ⟨vg, vc, hv5, _, _⟩ := World.ownsRow.form hown5 (by simp); rw [show (vs ++ [Value.slice (some ⟨rg, 0, none⟩) T.length rc]).length = k + 1 from (by simp [hvl.out])] at hv5; subst hv5; have hk5 : Blk w5 tb 70 #[.slice (some ⟨g1, 0, none⟩) S.length k1, .slice (some ⟨g2, 0, none⟩) T.length k2, hv] := (hg5.block tb (by simp; omega) (fun e => by have := HVLT.out tb e.symm; omega)).trans (HKR.out.alloc _); have e2 : w5.cell? ⟨tb, 2, none⟩ = some hv := hk5.cell 2; have q2 : w5.frozen? ⟨tb, 2, none⟩ = false := hk5.frozen 2; have HK5 := hide hk5; have HO5 := hide hown5; have HG5 := hide hg5; have HBK5 := hide hbk5; clear hk5 hown5 hg5 hbk5)
          have hz5 : wr.heap.size + 1 ≤ w5.heap.size := by have := HG5.out.size; simpa using this
          have hgs := set_gb w5 ⟨tb, 2, none⟩ (.slice (some ⟨vg, 0, none⟩) (k + 1) vc)
          have hz6 : (w5.setCell ⟨tb, 2, none⟩ (.slice (some ⟨vg, 0, none⟩) (k + 1) vc)).heap.size = w5.heap.size := by simp [World.setCell]
          have hv' : ∀ j, (Value.slice (some ⟨vg, 0, none⟩) (k + 1) vc).ownBlock = some j → tb + 1 ≤ j := fun j hj => (World.ownsRow.lt HO5.out j hj).1
          have hkeep : ∀ (u : Value) (ys : List Int), IsLB wr.heap.size wr u ys → Fresh (tb + 1) u → Apart u hv → IsLB (w5.setCell ⟨tb, 2, none⟩ (.slice (some ⟨vg, 0, none⟩) (k + 1) vc)).heap.size (w5.setCell ⟨tb, 2, none⟩ (.slice (some ⟨vg, 0, none⟩) (k + 1) vc)) u ys := by
            intro u ys h hf ha
            have h1 : IsLB wr.heap.size (wr.alloc (.cells #[.slice (some ⟨rg, 0, none⟩) T.length rc] 38)) u ys := IsLB.below h ((Below.refl _ _).alloc (Nat.le_refl _) _)
            have h2 := h1.gb (by simp) (fun j hj => by intro e; exact ha j hj e.symm) HG5.out
            have h3 := h2.gb (by omega) (fun j hj => by have := hf j hj; intro e; have e := Option.some.inj e; have e : j = tb := e; omega) hgs
            exact h3.more (by rw [hz6]; omega)
          have hnew : ∀ (u : Value), (∀ j, u.ownBlock = some j → j < wr.heap.size) → Apart u hv → Apart u (.slice (some ⟨vg, 0, none⟩) (k + 1) vc) := by
            intro u hu ha j h1 h2
            rcases HBK5.out with e | e
            · exact ha j h1 (by rw [← e]; exact h2)
            · rw [e] at h2; cases h2; have := hu _ h1; omega
          have hrowb : ∀ j, (Value.slice (some ⟨rg, 0, none⟩) T.length rc).ownBlock = some j → j = rg := by intro j hj; simp [Value.ownBlock] at hj; exact hj.symm
          have hapr : Apart (.slice (some ⟨rg, 0, none⟩) T.length rc) hv := by
            intro j h1 h2
            have := hrowb j h1; subst this
            have := HVLT.out _ h2; omega
          have HKEEP := hide hkeep; have HNEW := hide hnew; have HGS := hide hgs; have HAPR := hide hapr
          clear hkeep hnew hgs hapr hrowb
          go_roundw
          case rel =>
            refine ⟨k + 1, (.slice (some ⟨vg, 0, none⟩) (k + 1) vc), vs ++ [.slice (some ⟨rg, 0, none⟩) T.length rc], H ++ [xs], by go_num, by omega, hide (HK5.out.set 2 (.slice (some ⟨vg, 0, none⟩) (k + 1) vc)), hide (HO5.out.gb HGS.out (fun j hj => by have := hv' j hj; intro e; have e := Option.some.inj e; have e : j = tb := e; omega)), hide (by simp [hHl.out]), hide (by simp [hvl.out]), hide ?_, hide ?_, hide ?_⟩
            · intro j hj
              by_cases hjk : j < k
              · obtain ⟨r1, r2, r3, r4⟩ := hrows.out j hjk
                rw [List.getElem?_append_left (by rw [hvl.out]; exact hjk), List.getElem?_append_left (by rw [hHl.out]; exact hjk)]
                refine ⟨HKEEP.out _ _ ((IsLB.below r1 hbi.out).more hsi) r2 r3, r2, HNEW.out _ (fun i hi => ?_) r3, r4⟩
                have hne : (H[j]?.getD []) ≠ [] := by
                  rw [List.getElem?_eq_getElem (by rw [hHl.out]; exact hjk)]
                  have := (hrr.out _ (List.getElem_mem (show j < H.length by rw [hHl.out]; exact hjk))).1
                  intro h; simp only [Option.getD_some] at h; rw [h] at this; simp at this; omega
                have := r1.ownLt hne i hi
                omega
              · obtain rfl : j = k := by omega
                rw [List.getElem?_append_right (by rw [hvl.out]; exact Nat.le_refl _), List.getElem?_append_right (by rw [hHl.out]; exact Nat.le_refl _), hvl.out, hHl.out, Nat.sub_self]
                refine ⟨HKEEP.out _ _ HRL.out (fun i hi => ?_) HAPR.out, (fun i hi => ?_), HNEW.out _ (fun i hi => ?_) HAPR.out, rfl⟩
                all_goals (simp [Value.ownBlock] at hi; omega)
            · intro r hr
              rcases List.mem_append.1 hr with hr | hr
              · exact hrr.out r hr
              · simp at hr; subst hr; exact ⟨hxl.out, hxb.out⟩
            · have h1 : Only (fun j => j = tb) wo wr := Only.of_below hbi.out
              have h2 : ∀ j, j < wr.heap.size → ¬ j = tb → ¬ (tb + 1 ≤ j) → (w5.setCell ⟨tb, 2, none⟩ (.slice (some ⟨vg, 0, none⟩) (k + 1) vc)).heap[j]? = wr.heap[j]? := by
                intro j hj hjt hjl
                rw [HGS.out.block j (by omega) (by intro e; have e := Option.some.inj e; exact hjt e), HG5.out.block j (by simp; omega) (by intro e; have := HVLT.out j e.symm; omega)]
                exact Below.heap_alloc wr _ j hj
              have h3 := HGS.out; have h4 := HG5.out
              refine ⟨?_, ?_, ?_, ?_, fun j hj hjt => ?_⟩
              · exact ho.out.trans h1 |>.os |> fun e => (h3.os.trans h4.os).trans e
              · exact (h3.tape.trans h4.tape).trans (ho.out.trans h1).tape
              · exact (h3.output.trans h4.output).trans (ho.out.trans h1).output
              · have := ho.out.size; omega
              · have := HZ3.out
                rw [h2 j (by omega) hjt (by omega)]
                exact (ho.out.trans h1).block j hj hjt
          case measure => simp [intOf]; omega
    · have hl3 : ¬ ((k : Int) < S.length) := by omega
      obtain rfl : k = S.length := by omega
      have hkr : Blk wo w.heap.size 70 #[.slice none 0 0, .slice none 0 0, .slice none 0 0] := (ho.out.block w.heap.size (by have := HZ3.out; omega) (by omega)).trans HR3.out
      have e0 : wo.cell? ⟨w.heap.size, 0, none⟩ = some (.slice none 0 0) := hkr.cell 0
      have e1 : wo.cell? ⟨w.heap.size, 1, none⟩ = some (.slice none 0 0) := hkr.cell 1
      have e2 : wo.cell? ⟨w.heap.size, 2, none⟩ = some (.slice none 0 0) := hkr.cell 2
      have q0 := hkr.frozen 0
      have q1 := hkr.frozen 1
      have q2 := hkr.frozen 2
      have hko := hkr
      have HKO := hide hko
      clear hkr hko
      have hrw : w.heap.size < wo.heap.size := by omega
      obtain ⟨vg, vc, rfl, _, _⟩ := World.ownsRow.form hown.out (by rw [hvl.out]; omega)
      rw [hvl.out] at c2
      go_wp2_with fail
      obtain ⟨wF, hwF⟩ : ∃ wF, ((wo.setCell ⟨w.heap.size, 0, none⟩ (.slice (some ⟨g1, 0, none⟩) S.length k1)).setCell ⟨w.heap.size, 1, none⟩ (.slice (some ⟨g2, 0, none⟩) T.length k2)).setCell ⟨w.heap.size, 2, none⟩ (.slice (some ⟨vg, 0, none⟩) S.length vc) = wF := ⟨_, rfl⟩
      have hg : wo.grownBy wF (some w.heap.size) := by
        rw [← hwF]
        exact ((set_gb wo ⟨w.heap.size, 0, none⟩ _).trans (set_gb _ ⟨w.heap.size, 1, none⟩ _)).trans (set_gb _ ⟨w.heap.size, 2, none⟩ _)
      have hbF : Below w.heap.size w wF := by
        rw [← hwF]
        exact ((HBO.out.setCell (Nat.le_refl _) _).setCell (Nat.le_refl _) _).setCell (Nat.le_refl _) _
      have hkF : Blk wF w.heap.size 70 #[.slice (some ⟨g1, 0, none⟩) S.length k1, .slice (some ⟨g2, 0, none⟩) T.length k2, .slice (some ⟨vg, 0, none⟩) S.length vc] := by
        rw [← hwF]
        exact ((HKO.out.set 0 _).set 1 _).set 2 _
      rw [hvl.out] at hown
      have hzF := hg.size
      have toF : ∀ (u : Value) (ys : List Int), IsLB wo.heap.size wo u ys → (∀ j, u.ownBlock = some j → w.heap.size < j) → IsLB wF.heap.size wF u ys := fun u ys h hu =>
        (h.gb (Nat.le_refl _) (fun j hj => by have := hu j hj; intro e; have e := Option.some.inj e; omega) hg).more hzF
      have o3 := HZ3.out
      have l1 : IsL wF (.slice (some ⟨g1, 0, none⟩) S.length k1) S := by
        refine toF _ _ ((IsLB.gb (row := some tb) HL13.out (by omega) (fun j hj => ?_) ho.out.gb).more ho.out.size) (fun j hj => ?_)
        · simp [Value.ownBlock] at hj; intro e; have e := Option.some.inj e; omega
        · simp [Value.ownBlock] at hj; omega
      have l2 : IsL wF (.slice (some ⟨g2, 0, none⟩) T.length k2) T := by
        refine toF _ _ ((IsLB.gb (row := some tb) HL23.out (by omega) (fun j hj => ?_) ho.out.gb).more ho.out.size) (fun j hj => ?_)
        · simp [Value.ownBlock] at hj; intro e; have e := Option.some.inj e; omega
        · simp [Value.ownBlock] at hj; omega
      have hoF : OwnS (tb + 1) wF (.slice (some ⟨vg, 0, none⟩) S.length vc) vs := hown.out.gb hg (fun j hj => by have := (World.ownsRow.lt hown.out j hj).1; intro e; have e := Option.some.inj e; omega)
      have l3 : IsRB wF.heap.size wF (.slice (some ⟨vg, 0, none⟩) S.length vc) vs H := by
        refine ⟨by rw [hvl.out, hHl.out], fun i hi => ?_, some ⟨vg, 0, none⟩, vc, by rw [hHl.out], ?_, ?_, fun _ => ⟨vg, 0, rfl, ?_, fun i hi => ?_⟩⟩
        · obtain ⟨r1, r2, _, _⟩ := hrows.out i (by rw [← hHl.out]; exact hi)
          exact toF _ _ r1 (fun j hj => by have := r2 j hj; omega)
        · rcases hoF.2 with ⟨e, _⟩ | ⟨g', cap', cur, e, _, _, h1, h2, _⟩
          · simp at e
          · obtain ⟨_, _, rfl⟩ := Value.slice.inj e
            rw [hHl.out, ← hvl.out]; exact h1
        · rcases hoF.2 with ⟨e, _⟩ | ⟨g', cap', cur, e, _, _, h1, h2, _⟩
          · simp at e
          · obtain ⟨_, _, rfl⟩ := Value.slice.inj e
            exact h2
        · exact (World.ownsRow.lt hoF vg rfl).2
        · rw [Nat.zero_add]
          have := World.ownsRow.cellAt (by rw [← hvl.out] at hoF; exact hoF) i (by rw [hvl.out, ← hHl.out]; omega)
          rw [this, List.getElem?_eq_getElem (by rw [hvl.out, ← hHl.out]; exact hi)]; rfl
      rw [hwF]
      refine bodyPost_ret (results_cell_row (p := 6) (ty := 70) Try.results56 _ wF w.heap.size 70 _ (0, 0) _ rfl hkF Try.underlying70 rfl (by kernel_rfl)) rfl ?_
      exact ⟨_, _, _, _, _, _, vs, S, T, H, rfl, l1, l2, l3, HS1.out, s2, s9, HS2.out, t2, t7, hHl.out, hrr.out, hbF⟩
end Go.Proofs.Ytbkdffjdeplcgaa
