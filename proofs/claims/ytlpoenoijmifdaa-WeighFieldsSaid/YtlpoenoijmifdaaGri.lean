import Derived.Test.YtlpoenoijmifdaaTac
set_option linter.unusedVariables false
set_option linter.unusedSimpArgs false
namespace Go.Proofs.Ytlpoenoijmifdaa
open Go.RowKit Go.Shelf

theorem infoS : (Try.prog.info? 38).map (fun i => (i.zero, i.size, i.bytes)) = some (some (.slice none 0 0), 1, 24) := by kernel_rfl

def nils (n : Nat) : Array Value := (List.replicate n (Value.slice none 0 0)).toArray
theorem make_rows0 (n : Nat) (h : n ≤ 1000000) (w : World) : (Instr.makeSlice 68 (.int .i64 0) (.int .i64 (n : Int))).run Try.prog w = .ok (.slice (some ⟨w.heap.size, 0, none⟩) 0 n) (w.alloc (.cells (nils n) 38)) := by
  obtain ⟨i0, hi, hz0, hz1, hz2⟩ := info_parts infoS
  have := run_make (P := Try.prog) w 68 38 i0 _ Try.underlying68 hi hz0 .i64 .i64 0 n (Int.le_refl _) (by omega) (by rw [hz2]; omega) (by omega)
  rw [this]
  have e : madeCells (Value.cells (.slice none 0 0)) ((n : Int).toNat * i0.size) = nils n := by
    rw [hz1, Int.toNat_natCast, Nat.mul_one]
    apply Array.toList_inj.1
    show (madeCells #[Value.slice none 0 0] n).toList = _
    rw [toList_madeCells_one]; simp [nils]
  rw [e]; simp

theorem Only.grown {a w w' : World} {g : Nat} {S : Nat → Prop} (h : Only S a w) (hg : w.grownBy w' (some g)) (hS : S g) : Only S a w' :=
  h.trans ⟨hg.os, hg.tape, hg.output, hg.size, fun k hk hs => hg.block k hk (by intro e; cases e; exact hs hS)⟩

theorem Only.gb {g : Nat} {w w' : World} (h : Only (fun j => j = g) w w') : w.grownBy w' (some g) := ⟨h.os, h.tape, h.output, h.size, fun k hk hne => h.block k hk (fun e => hne (by rw [e]))⟩

theorem IsLB.only' {S : Nat → Prop} {B0 B : Nat} {w w' : World} {v : Value} {xs : List Int} (h : IsLB B w v xs) (hB : B ≤ w.heap.size) (hf : Fresh B0 v) (hS : ∀ k, S k → k < B0) (ho : Only S w w') : IsLB B w' v xs := by
  obtain ⟨a, cap, hv, h1, h2, h3, h4⟩ := h
  refine ⟨a, cap, hv, h1, h2, h3, fun hne => ?_⟩
  obtain ⟨b, off, ha, hlt, hc⟩ := h4 hne
  have hb : ¬ S b := fun hs => by
    have h1 := hS b hs
    have h2 := hf b (by rw [hv, ha]; rfl)
    omega
  exact ⟨b, off, ha, hlt, fun i hi => by rw [ho.cell (p := ⟨b, off + i, none⟩) (by show b < _; omega) hb]; exact hc i hi⟩

def gridL (S W : List Int) : List (List Int) := (wts S).map fun a => (wts W).map fun b => a * b

set_option maxRecDepth 100000 in
set_option maxHeartbeats 2000000 in
theorem gridOf_w (a1 a2 : Option Addr) (n1 n2 c1 c2 : Nat) (S W : List Int) (w : World) (i1 : IsL w (.slice a1 n1 c1) S) (i2 : IsL w (.slice a2 n2 c2) W) (hS : Pos S) (hW : Pos W) :
    Calls Try.prog 83 #[.slice a1 n1 c1, .slice a2 n2 c2] w fun e w' => ∃ v, e = .returned v ∧ (∃ vs, IsRB w'.heap.size w' v vs (gridL S W) ∧ Fresh w.heap.size v ∧ ∀ i, i < vs.length → Fresh w.heap.size (vs[i]?.getD undef)) ∧ Below w.heap.size w w' := by
  have hn1 : n1 = S.length := by obtain ⟨_, _, hv, _⟩ := i1; cases hv; rfl
  subst hn1
  have hs9 := hS.hi
  have hw9 := hW.hi
  have hmk := make_rows0 S.length (by omega)
  have hmk2 := make_ints0 (wts W).length (by rw [wts_len]; omega)
  have hwl : Hid ((wts W).length = W.length) := wts_len W
  have hsl : Hid ((wts S).length = S.length) := wts_len S
  have hg1 := weightsOf_w a2 n2 c2 W w i2 hW
  have HG1 := hide hg1; clear hg1
  have hg2 := fun (w' : World) (hb : Below w.heap.size w w') => weightsOf_w a1 S.length c1 S w' (i1.below hb) hS
  have HG2 := hide hg2; clear hg2
  obtain ⟨i0, hi, hz0, hz1, hz2⟩ := info_parts infoS
  obtain ⟨j0, hj, hy0, hy1, hy2⟩ := info_parts infoI
  have hw9' : (wts W).length ≤ 9 := by rw [wts_len]; exact hw9
  have hs9' : (wts S).length ≤ 9 := by rw [wts_len]; exact hs9
  have HLS := hide (wts_lim hS)
  have HLW := hide (wts_lim hW)
  go_enter Try.func83, Try.ntmps83
  go_wp2_with fail
  refine HG1.out.mono ?_
  rintro e w1 ⟨uv, rfl, hu, hfu, hb1⟩
  obtain ⟨au, cu, rfl, lu, mu, _, ku⟩ := id hu
  go_wp2_with fail
  refine (HG2.out _ (hb1.alloc hb1.size _)).mono ?_
  rintro e w2 ⟨sv, rfl, hs, hfs, hb2⟩
  obtain ⟨a5, c5, rfl, ls, ms, _, ks⟩ := id hs
  go_wp2_with fail
  have hz : w1.heap.size + 1 ≤ w2.heap.size := by have := hb2.size; simpa using this
  have hb3 : Below w.heap.size w w2 := (hb1.alloc hb1.size _).trans (hb2.mono (by have := hb1.size; simp; omega))
  have hu2 : IsLB w1.heap.size w2 (.slice au (wts W).length cu) (wts W) := IsLB.below (IsLB.below (B := w1.heap.size) hu ((Below.refl _ _).alloc (Nat.le_refl _) _)) (hb2.mono (by simp))
  have hfs' : Fresh (w1.heap.size + 1) (.slice a5 (wts S).length c5) := by have := hfs; rwa [World.size_alloc] at this
  have hown0 : w2.ownsRow w.heap.size 38 1 (.slice (some ⟨w1.heap.size, 0, none⟩) 0 S.length) 0 [] := by
    have h1 := World.ownsRow_made (base := w.heap.size) (e := 38) (size := 1) w1 (nils S.length) S.length hb1.size (by unfold maxLen; omega) (by simp [nils])
    exact h1.kept (row := none) ⟨hb2.os, hb2.tape, hb2.output, hb2.size, fun k hk _ => hb2.block k hk⟩ (.inr (by simp [Value.ownBlock]))
  clear ku ks mu ms hb2 hfs lu ls
  have HU2 := hide hu2; have HS2 := hide hs; have HFS := hide hfs'
  clear hu2 hs hfs' hu hfu
  go_loopw [6, 20] (fun g i wr => ∃ (k : Nat) (vs : List Value), g = .slice (some ⟨w1.heap.size, 0, none⟩) k S.length ∧ i = .int .i64 k ∧ k ≤ (wts S).length ∧ Hid (vs.length = k) ∧ Hid (wr.ownsRow w.heap.size 38 1 (.slice (some ⟨w1.heap.size, 0, none⟩) k S.length) k vs) ∧ Hid (Only (fun j => j = w1.heap.size) w2 wr) ∧ Hid (∀ j, j < k → IsLB wr.heap.size wr (vs[j]?.getD undef) ((wts W).map fun b => at_ (wts S) j * b) ∧ Fresh w2.heap.size (vs[j]?.getD undef)) ∧ Hid (∀ u ∈ vs, u.oneCell' = true)) (fun _ i _ => (wts S).length - (intOf i).toNat)
  case atStart => exact ⟨0, [], rfl, rfl, Nat.zero_le _, rfl, hown0, hide (Only.refl _ _), hide (by intro j hj; omega), hide (by simp)⟩
  case round =>
    obtain ⟨k, vs, rfl, rfl, hk, hvl, hown, ho, hrows, hone⟩ := hrel
    obtain ⟨wo, rfl⟩ : ∃ wo : World, wo = wr := ⟨_, rfl⟩
    have hwz : w2.heap.size ≤ wo.heap.size := ho.out.size
    by_cases hlt : k < (wts S).length
    · have hsr : IsLB w2.heap.size wo (.slice a5 (wts S).length c5) (wts S) := HS2.out.only' (Nat.le_refl _) HFS.out (by intro j hj; omega) ho.out
      obtain ⟨a6, c6, e6, _, _, _, k6⟩ := hsr
      cases e6
      obtain ⟨b6, o6, rfl, hb6, q6⟩ := k6 (by intro h; rw [h] at hlt; simp at hlt)
      have d6 : wo.cell? ⟨b6, o6 + k, none⟩ = some (.int .i64 (at_ (wts S) k)) := q6 k hlt
      have hkS : k < S.length := by have := hsl.out; omega
      obtain ⟨x, hx⟩ : ∃ x, at_ (wts S) k = x := ⟨_, rfl⟩
      have hxl := HLS.out k
      rw [hx] at d6 hxl
      have HX := hide hx; clear hx q6 k6
      obtain ⟨hxl1, hxl2⟩ := hxl
      have hl3 : (k : Int) < (wts S).length := by omega
      have hmade : (wo.alloc (.cells (ints (List.replicate (wts W).length 0)) 3)).ownsRow w2.heap.size 3 1 (.slice (some ⟨wo.heap.size, 0, none⟩) 0 (wts W).length) 0 [] := World.ownsRow_made _ _ _ hwz (by unfold maxLen; have := hwl.out; omega) (by simp [ints])
      have HMADE := hide hmade; clear hmade
      have huo : IsLB w1.heap.size wo (.slice au (wts W).length cu) (wts W) := IsLB.below HU2.out (ho.out.below (by omega) (by intro j hj; omega))
      have HUO := hide huo; clear huo
      go_wp2
      go_loopw [9, 29] (fun r j wr => ∃ q : Nat, r = .slice (some ⟨wo.heap.size, 0, none⟩) q (wts W).length ∧ j = .int .i64 q ∧ q ≤ (wts W).length ∧ Hid (wr.ownsRow w2.heap.size 3 1 (.slice (some ⟨wo.heap.size, 0, none⟩) q (wts W).length) q (((wts W).take q).map fun b => .int .i64 (x * b))) ∧ Hid (Only (fun j => j = wo.heap.size) (wo.alloc (.cells (ints (List.replicate (wts W).length 0)) 3)) wr)) (fun _ j _ => (wts W).length - (intOf j).toNat)
      case atStart => exact ⟨0, rfl, rfl, Nat.zero_le _, by simpa using HMADE, hide (Only.refl _ _)⟩
      case round =>
        obtain ⟨q, rfl, rfl, hq, hrow, hoi⟩ := hrel
        have hsz : wo.heap.size + 1 ≤ wr.heap.size := by have := hoi.out.size; simpa using this
        by_cases hql : q < (wts W).length
        · have hur : IsLB w1.heap.size wr (.slice au (wts W).length cu) (wts W) := (IsLB.below HUO.out (((Below.refl _ _).alloc (Nat.le_refl _) _).mono (by omega))).below (hoi.out.below (by simp; omega) (by intro j hj; omega))
          obtain ⟨a7, c7, e7, _, _, _, k7⟩ := hur
          cases e7
          obtain ⟨b7, o7, rfl, hb7, q7⟩ := k7 (by intro h; rw [h] at hql; simp at hql)
          have d7 : wr.cell? ⟨b7, o7 + q, none⟩ = some (.int .i64 (at_ (wts W) q)) := q7 q hql
          have htake : (wts W).take (q + 1) = (wts W).take q ++ [at_ (wts W) q] := by rw [List.take_succ_eq_append_getElem hql, at_get hql]
          obtain ⟨y, hy⟩ : ∃ y, at_ (wts W) q = y := ⟨_, rfl⟩
          have hyl := HLW.out q
          rw [hy] at d7 htake hyl
          have HTAKE := hide htake
          clear hy q7 k7 htake
          obtain ⟨hyl1, hyl2⟩ := hyl
          have hmul := mul_lim (a := x) (b := y) (K := 480000000) (V := 480000000) ⟨hxl1, hxl2⟩ ⟨hyl1, hyl2⟩
          obtain ⟨hm1, hm2⟩ := hmul
          have hl7 : (q : Int) < (wts W).length := by omega
          go_wp2_with (at_builtin; refine wpList_append_fits _ rfl (.tmp 33) (.tmp 37) 38 rfl w2.heap.size 3 j0 1 Try.underlying38 hj hy1 wo.heap.size q (wts W).length _ rfl (hrow.out.alloc _) ⟨wr.heap.size, 0, none⟩ 1 1 [.int .i64 (x * y)] rfl rfl (cell_one_new _ _ _) (by simp [Value.oneCell']) (by omega) ?_; intro w5 hown5 hgrow5)
          go_roundw
          case rel => exact ⟨q + 1, rfl, by go_num, by omega, hide (by rw [HTAKE.out, List.map_append]; exact hown5), hide ((hoi.out.alloc _).grown hgrow5 rfl)⟩
          case measure => simp [intOf]; omega
        · have hl7 : ¬ ((q : Int) < (wts W).length) := by omega
          have hqe : q = (wts W).length := by omega
          have hrw := hrow.out
          rw [hqe, List.take_length] at hrw
          have hbw : Below wo.heap.size wo wr := ((Below.refl _ _).alloc (Nat.le_refl _) _).trans (hoi.out.below (by simp) (by intro j hj; omega))
          have hrl : IsL wr (.slice (some ⟨wo.heap.size, 0, none⟩) (wts W).length (wts W).length) ((wts W).map fun b => x * b) := by
            refine IsL.of_own (n := (wts W).length) (by rw [List.map_map]; exact hrw) ?_
            intro z hz
            obtain ⟨b, hb, rfl⟩ := List.mem_map.1 hz
            obtain ⟨j, hj, rfl⟩ := List.mem_iff_getElem.1 hb
            have h1 := HLW.out j
            rw [at_get hj] at h1
            have := mul_lim (a := x) (b := (wts W)[j]) (K := 480000000) (V := 480000000) ⟨hxl1, hxl2⟩ h1
            exact ⟨by omega, by omega⟩
          have hgr := (hown.out.alloc (.cells (ints (List.replicate (wts W).length 0)) 3)).kept hoi.out.gb (.inr (by simp [Value.ownBlock]; omega))
          have HGR := hide hgr; have HRL := hide hrl; have HQE := hide hqe; have HBW := hide hbw
          clear hgr hrl hrw hqe hbw
          go_wp2_with (at_builtin; refine wpList_append_fits _ rfl (.tmp 40) (.tmp 42) 68 rfl w.heap.size 38 i0 1 Try.underlying68 hi hz1 w1.heap.size k S.length _ rfl (HGR.out.alloc _) ⟨wr.heap.size, 0, none⟩ 1 1 [.slice (some ⟨wo.heap.size, 0, none⟩) q (wts W).length] rfl rfl (cell_one_new _ _ _) (by simp [Value.oneCell']) (by omega) ?_; intro w5 hown5 hgrow5)
          have hfr : Fresh w2.heap.size (.slice (some ⟨wo.heap.size, 0, none⟩) q (wts W).length) := fun j hj => by simp [Value.ownBlock] at hj; omega
          have hon : Only (fun j => j = w1.heap.size) wr w5 := ((Only.refl _ _).alloc _).grown hgrow5 rfl
          have HFR := hide hfr; have HON := hide hon
          have hsz5 : wr.heap.size ≤ w5.heap.size := hon.size
          clear hfr hon
          go_roundw
          case rel =>
            refine ⟨k + 1, vs ++ [.slice (some ⟨wo.heap.size, 0, none⟩) q (wts W).length], rfl, by go_num, by omega, hide (by simp [hvl.out]), hide hown5, hide ((ho.out.trans (Only.of_below HBW.out)).trans HON.out), hide ?_, hide ?_⟩
            · intro j hj
              by_cases hjk : j < k
              · have h1 := hrows.out j hjk
                rw [List.getElem?_append_left (by have := hvl.out; omega)]
                exact ⟨((h1.1.below HBW.out).only' HBW.out.size h1.2 (by intro i hi; omega) HON.out).more (by have := HBW.out.size; omega), h1.2⟩
              · have hjk' : j = k := by omega
                subst hjk'
                rw [List.getElem?_append_right (by have := hvl.out; omega), show j - vs.length = 0 by have := hvl.out; omega, HX.out]
                refine ⟨?_, HFR.out⟩
                have := (IsLB.only' HRL.out (Nat.le_refl _) (HQE.out ▸ HFR.out) (by intro i hi; omega) HON.out).more hsz5
                simpa [HQE.out] using this
            · intro u hu
              rcases List.mem_append.1 hu with hu | hu
              · exact hone.out u hu
              · simp at hu; subst hu; rfl
          case measure => simp [intOf]; omega
    · have hl3 : ¬ ((k : Int) < (wts S).length) := by omega
      have hke : k = (wts S).length := by omega
      have hkS : k = S.length := by have := hsl.out; omega
      have hfin : IsRB wo.heap.size wo (.slice (some ⟨w1.heap.size, 0, none⟩) k S.length) vs (gridL S W) := by
        have hgl : (gridL S W).length = k := by unfold gridL; rw [List.length_map]; exact hke.symm
        refine ⟨by rw [hgl]; exact hvl.out, fun i hi => ?_, some ⟨w1.heap.size, 0, none⟩, S.length, by rw [hgl], by rw [hgl]; omega, by unfold maxLen; omega, fun _ => ⟨w1.heap.size, 0, rfl, by omega, fun i hi => ?_⟩⟩
        · rw [hgl] at hi
          have := (hrows.out i hi).1
          have e : (gridL S W)[i]?.getD [] = (wts W).map fun b => at_ (wts S) i * b := by unfold gridL; rw [List.getElem?_map, List.getElem?_eq_getElem (by omega), at_get (by omega)]; rfl
          rw [e]; exact this
        · rw [hgl] at hi
          rw [Nat.zero_add, hown.out.cellAt _ (by omega), List.getElem?_eq_getElem (by have := hvl.out; omega)]; rfl
      have HFIN := hide hfin; clear hfin hke hkS
      go_wp2
      go_ret
      exact ⟨_, rfl, ⟨vs, HFIN.out, (fun j hj => by simp [Value.ownBlock] at hj; have := hb1.size; omega), fun i hi j hj => by have h1 := (hrows.out i (by have := hvl.out; omega)).2 j hj; have := hb1.size; omega⟩, hb3.trans (ho.out.below hb3.size (by intro j hj; have := hb1.size; omega))⟩
end Go.Proofs.Ytlpoenoijmifdaa
