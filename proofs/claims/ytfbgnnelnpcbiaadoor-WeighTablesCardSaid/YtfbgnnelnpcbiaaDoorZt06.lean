import Derived.Test.YtfbgnnelnpcbiaaDoorZt05
set_option linter.unusedVariables false
set_option linter.unusedSimpArgs false
namespace Go.Proofs.YtfbgnnelnpcbiaaDoor
open Go.RowKit Go.Shelf

theorem tab_not1 {S W : List Int} {H : List (List Int)} (h : planB S W = false) : tabE S W H = 13 := by unfold tabE tabB; rw [h]; rfl
theorem tab_not2 {S W : List Int} {H : List (List Int)} (h : ¬ H.length = S.length) : tabE S W H = 13 := by unfold tabE tabB; rw [decide_eq_false h]; simp
theorem tab_not3 {S W : List Int} {H : List (List Int)} (h : H.all (rowB W) = false) : tabE S W H = 13 := by unfold tabE tabB; rw [h]; simp

set_option maxRecDepth 100000 in
set_option maxHeartbeats 2000000 in
theorem CheckTable_w (vS vW vH : Value) (vs : List Value) (S W : List Int) (H : List (List Int)) (w : World) (i1 : IsL w vS S) (i2 : IsL w vW W) (i3 : IsRB w.heap.size w vH vs H) :
    Calls Tryd.prog 13 #[.agg #[vS, vW, vH]] w fun e w' => e = .returned (.int .i64 (tabE S W H)) ∧ Below w.heap.size w w' := by
  obtain ⟨a1, c1, rfl, _⟩ := id i1
  obtain ⟨a2, c2, rfl, _⟩ := id i2
  obtain ⟨h0, hrow, a3, c3, rfl, l3, m3, k3⟩ := i3
  unfold maxLen at m3
  have hb0 : ∀ o : Obj, Below w.heap.size w (w.alloc o) := fun o => (Below.refl _ _).alloc (Nat.le_refl _) _
  have hpl := fun o => plan_w a1 a2 S.length W.length c1 c2 S W (w.alloc o) (i1.below (hb0 o)) (i2.below (hb0 o))
  have HPL := hide hpl; clear hpl
  cases hp : planB S W with
  | false =>
    have E : Hid (tabE S W H = 13) := tab_not1 hp
    have e1 : planE S W = 12 := by unfold planE; rw [hp]; rfl
    rw [e1] at HPL
    clear hp e1
    go_enter Tryd.func13, Tryd.ntmps13
    go_wp2_with (go_at_call 16; refine (HPL.out _).mono ?_; rintro e w' ⟨rfl, k, rfl⟩)
    go_ret
    exact ⟨ret_int E.out.symm, (by repeat (first | exact Below.refl _ _ | assumption | refine Below.alloc ?_ (by first | omega | (simp; omega) | simp) _ | refine Below.setCell ?_ (by first | omega | (simp; omega) | simp) _ | refine below_drewN ?_ _ | refine Below.drew ?_ | refine back ?_ (by assumption)))⟩
  | true =>
    have e1 : planE S W = 0 := by unfold planE; rw [hp]; rfl
    rw [e1] at HPL
    clear e1
    by_cases hl : H.length = S.length
    · have d1 : ((H.length : Int) != (S.length : Int)) = false := by simp; omega
      have EN := hide (tab_not3 (S := S) (W := W) (H := H))
      have EY : Hid (H.all (rowB W) = true → tabE S W H = 0) := by intro h; unfold tabE tabB; rw [hp, decide_eq_true hl, h]; rfl
      clear hl hp
      have HROW := hide hrow; clear hrow
      go_enter Tryd.func13, Tryd.ntmps13
      go_wp2_with (go_at_call 16; refine (HPL.out _).mono ?_; rintro e w' ⟨rfl, k, rfl⟩)
      go_loopw [23] (fun i wr => ∃ k n : Nat, i = .int .i64 k ∧ k ≤ H.length ∧ Hid ((H.take k).all (rowB W) = true) ∧ wr = (w.alloc (.cells #[.slice a1 S.length c1, .slice a2 W.length c2, .slice a3 H.length c3] 25)).drewN n) (fun i _ => H.length - (intOf i).toNat)
      case atStart => exact ⟨0, _, rfl, Nat.zero_le _, hide (by simp), rfl⟩
      case round =>
        obtain ⟨k, n, rfl, hk, hall, rfl⟩ := hrel
        by_cases hlt : k < H.length
        · obtain ⟨b, off, rfl, hbl, hc⟩ := k3 (by intro h; subst h; simp at hlt)
          have hck := hc k hlt
          have hrk := HROW.out k hlt
          have hx : H[k]?.getD [] = H[k] := by simp [hlt]
          rw [hx] at hrk
          have hta := take_all (rowB W) H k hlt
          have htf := all_false (rowB W) H k hlt
          obtain ⟨r, hr⟩ : ∃ r, H[k] = r := ⟨_, rfl⟩
          rw [hr] at hrk hta htf
          have HTA := hide hta; have HTF := hide htf
          have hri := hrk
          obtain ⟨ar, cr, hvr, _⟩ := hrk
          rw [hvr] at hck hri
          have hwi := fun n : Nat => within_q ar r.length cr r 0 20000 ((w.alloc (.cells #[.slice a1 S.length c1, .slice a2 W.length c2, .slice (some ⟨b, off, none⟩) H.length c3] 25)).drewN n) (IsL.drewN (IsL.below hri (hb0 _)) n)
          have HWI := hide hwi
          clear hwi hri hvr hr hta htf hx hc
          have hl3 : (k : Int) < H.length := by omega
          by_cases hl4 : r.length = W.length
          · have d2 : ((r.length : Int) != (W.length : Int)) = false := by simp; omega
            cases ha : r.all (inB 0 20000) with
            | true =>
              rw [ha] at HWI
              have HN : Hid ((H.take (k + 1)).all (rowB W) = true) := by show _ = _; rw [HTA.out, hall.out]; unfold rowB; rw [ha, decide_eq_true hl4]; rfl
              clear hl4 ha
              go_wp2_with (go_at_call 30; refine (HWI.out _).mono ?_; rintro e w' ⟨rfl, rfl⟩)
              go_roundw
              case rel => exact ⟨k + 1, _, by go_num, by omega, HN, (by first | rfl | exact World.drewN_drewN _ _ _)⟩
              case measure => simp [intOf]; omega
            | false =>
              rw [ha] at HWI
              have HN := hide (EN.out (HTF.out (by unfold rowB; rw [ha]; simp)))
              clear hl4 ha
              go_wp2_with (go_at_call 30; refine (HWI.out _).mono ?_; rintro e w' ⟨rfl, rfl⟩)
              go_ret
              exact ⟨ret_int HN.out.symm, (by repeat (first | exact Below.refl _ _ | assumption | refine Below.alloc ?_ (by first | omega | (simp; omega) | simp) _ | refine Below.setCell ?_ (by first | omega | (simp; omega) | simp) _ | refine below_drewN ?_ _ | refine Below.drew ?_ | refine back ?_ (by assumption)))⟩
          · have d2 : ((r.length : Int) != (W.length : Int)) = true := by simp; omega
            have HN := hide (EN.out (HTF.out (by unfold rowB; rw [decide_eq_false hl4]; simp)))
            clear hl4
            go_wp2
            go_ret
            exact ⟨ret_int HN.out.symm, (by repeat (first | exact Below.refl _ _ | assumption | refine Below.alloc ?_ (by first | omega | (simp; omega) | simp) _ | refine Below.setCell ?_ (by first | omega | (simp; omega) | simp) _ | refine below_drewN ?_ _ | refine Below.drew ?_ | refine back ?_ (by assumption)))⟩
        · have hl3 : ¬ ((k : Int) < H.length) := by omega
          have HN := hide (EY.out (by have := hall.out; rw [List.take_of_length_le (by omega)] at this; exact this))
          go_wp2
          go_ret
          exact ⟨ret_int HN.out.symm, (by repeat (first | exact Below.refl _ _ | assumption | refine Below.alloc ?_ (by first | omega | (simp; omega) | simp) _ | refine Below.setCell ?_ (by first | omega | (simp; omega) | simp) _ | refine below_drewN ?_ _ | refine Below.drew ?_ | refine back ?_ (by assumption)))⟩
    · have d1 : ((H.length : Int) != (S.length : Int)) = true := by simp; omega
      have E : Hid (tabE S W H = 13) := tab_not2 hl
      clear hl hp
      go_enter Tryd.func13, Tryd.ntmps13
      go_wp2_with (go_at_call 16; refine (HPL.out _).mono ?_; rintro e w' ⟨rfl, k, rfl⟩)
      go_ret
      exact ⟨ret_int E.out.symm, (by repeat (first | exact Below.refl _ _ | assumption | refine Below.alloc ?_ (by first | omega | (simp; omega) | simp) _ | refine Below.setCell ?_ (by first | omega | (simp; omega) | simp) _ | refine below_drewN ?_ _ | refine Below.drew ?_ | refine back ?_ (by assumption)))⟩
end Go.Proofs.YtfbgnnelnpcbiaaDoor

namespace Go.Proofs.YtfbgnnelnpcbiaaDoor
open Go.RowKit Go.Shelf

theorem infoS : (Tryd.prog.info? 22).map (fun i => (i.zero, i.size, i.bytes)) = some (some (.slice none 0 0), 1, 24) := by kernel_rfl

def nils (n : Nat) : Array Value := (List.replicate n (Value.slice none 0 0)).toArray
theorem make_rows0 (n : Nat) (h : n ≤ 1000000) (w : World) : (Instr.makeSlice 23 (.int .i64 0) (.int .i64 (n : Int))).run Tryd.prog w = .ok (.slice (some ⟨w.heap.size, 0, none⟩) 0 n) (w.alloc (.cells (nils n) 22)) := by
  obtain ⟨i0, hi, hz0, hz1, hz2⟩ := info_parts infoS
  have := run_make (P := Tryd.prog) w 23 22 i0 _ Tryd.underlying23 hi hz0 .i64 .i64 0 n (Int.le_refl _) (by omega) (by rw [hz2]; omega) (by omega)
  rw [this]
  have e : madeCells (Value.cells (.slice none 0 0)) ((n : Int).toNat * i0.size) = nils n := by
    rw [hz1, Int.toNat_natCast, Nat.mul_one]
    apply Array.toList_inj.1
    show (madeCells #[Value.slice none 0 0] n).toList = _
    rw [toList_madeCells_one]; simp [nils]
  rw [e]; simp

theorem Only.grown {a w w' : World} {g : Nat} {S : Nat → Prop} (h : Only S a w) (hg : w.grownBy w' (some g)) (hS : S g) : Only S a w' :=
  h.trans ⟨hg.os, hg.tape, hg.output, hg.size, fun k hk hs => hg.block k hk (by intro e; cases e; exact hs hS)⟩

theorem Only.gb {g : Nat} {w w' : World} (h : Only (fun j => j = g) w w') : w.grownBy w' (some g) := ⟨h.os, h.tape, h.output, h.size, fun k hk hne => h.block k hk (fun e => hne (by rw [e]))⟩

theorem IsLB.only' {S : Nat → Prop} {B0 B : Nat} {w w' : World} {v : Value} {xs : List Int} (h : IsLB B w v xs) (hB : B ≤ w.heap.size) (hf : Fresh B0 v) (hS : ∀ k, S k → k < B0) (ho : Only S w w') : IsLB B w' v xs := by
  obtain ⟨a, cap, hv, h1, h2, h3, h4⟩ := h
  refine ⟨a, cap, hv, h1, h2, h3, fun hne => ?_⟩
  obtain ⟨b, off, ha, hlt, hc⟩ := h4 hne
  have hb : ¬ S b := fun hs => by
    have h1 := hS b hs
    have h2 := hf b (by rw [hv, ha]; rfl)
    omega
  exact ⟨b, off, ha, hlt, fun i hi => by rw [ho.cell (p := ⟨b, off + i, none⟩) (by show b < _; omega) hb]; exact hc i hi⟩

def gridL (S W : List Int) : List (List Int) := (wts S).map fun a => (wts W).map fun b => a * b

set_option maxRecDepth 100000 in
set_option maxHeartbeats 2000000 in
theorem gridOf_w (a1 a2 : Option Addr) (n1 n2 c1 c2 : Nat) (S W : List Int) (w : World) (i1 : IsL w (.slice a1 n1 c1) S) (i2 : IsL w (.slice a2 n2 c2) W) (hS : Pos S) (hW : Pos W) :
    Calls Tryd.prog 17 #[.slice a1 n1 c1, .slice a2 n2 c2] w fun e w' => ∃ v, e = .returned v ∧ (∃ vs, IsRB w'.heap.size w' v vs (gridL S W) ∧ Fresh w.heap.size v ∧ ∀ i, i < vs.length → Fresh w.heap.size (vs[i]?.getD undef)) ∧ Below w.heap.size w w' := by
  have hn1 : n1 = S.length := by obtain ⟨_, _, hv, _⟩ := i1; cases hv; rfl
  subst hn1
  have hs9 := hS.hi
  have hw9 := hW.hi
  have hmk := make_rows0 S.length (by omega)
  have hmk2 := make_ints0 (wts W).length (by rw [wts_len]; omega)
  have hwl : Hid ((wts W).length = W.length) := wts_len W
  have hsl : Hid ((wts S).length = S.length) := wts_len S
  have hg1 := weightsOf_w a2 n2 c2 W w i2 hW
  have HG1 := hide hg1; clear hg1
  have hg2 := fun (w' : World) (hb : Below w.heap.size w w') => weightsOf_w a1 S.length c1 S w' (i1.below hb) hS
  have HG2 := hide hg2; clear hg2
  obtain ⟨i0, hi, hz0, hz1, hz2⟩ := info_parts infoS
  obtain ⟨j0, hj, hy0, hy1, hy2⟩ := info_parts infoI
  have hw9' : (wts W).length ≤ 9 := by rw [wts_len]; exact hw9
  have hs9' : (wts S).length ≤ 9 := by rw [wts_len]; exact hs9
  have HLS := hide (wts_lim hS)
  have HLW := hide (wts_lim hW)
  go_enter Tryd.func17, Tryd.ntmps17
  go_wp2_with fail
  refine HG1.out.mono ?_
  rintro e w1 ⟨uv, rfl, hu, hfu, hb1⟩
  obtain ⟨au, cu, rfl, lu, mu, _, ku⟩ := id hu
  go_wp2_with fail
  refine (HG2.out _ (hb1.alloc hb1.size _)).mono ?_
  rintro e w2 ⟨sv, rfl, hs, hfs, hb2⟩
  obtain ⟨a5, c5, rfl, ls, ms, _, ks⟩ := id hs
  go_wp2_with fail
  have hz : w1.heap.size + 1 ≤ w2.heap.size := by have := hb2.size; simpa using this
  have hb3 : Below w.heap.size w w2 := (hb1.alloc hb1.size _).trans (hb2.mono (by have := hb1.size; simp; omega))
  have hu2 : IsLB w1.heap.size w2 (.slice au (wts W).length cu) (wts W) := IsLB.below (IsLB.below (B := w1.heap.size) hu ((Below.refl _ _).alloc (Nat.le_refl _) _)) (hb2.mono (by simp))
  have hfs' : Fresh (w1.heap.size + 1) (.slice a5 (wts S).length c5) := by have := hfs; rwa [World.size_alloc] at this
  have hown0 : w2.ownsRow w.heap.size 22 1 (.slice (some ⟨w1.heap.size, 0, none⟩) 0 S.length) 0 [] := by
    have h1 := World.ownsRow_made (base := w.heap.size) (e := 22) (size := 1) w1 (nils S.length) S.length hb1.size (by unfold maxLen; omega) (by simp [nils])
    exact h1.kept (row := none) ⟨hb2.os, hb2.tape, hb2.output, hb2.size, fun k hk _ => hb2.block k hk⟩ (.inr (by simp [Value.ownBlock]))
  clear ku ks mu ms hb2 hfs lu ls
  have HU2 := hide hu2; have HS2 := hide hs; have HFS := hide hfs'
  clear hu2 hs hfs' hu hfu
  go_loopw [6, 20] (fun g i wr => ∃ (k : Nat) (vs : List Value), g = .slice (some ⟨w1.heap.size, 0, none⟩) k S.length ∧ i = .int .i64 k ∧ k ≤ (wts S).length ∧ Hid (vs.length = k) ∧ Hid (wr.ownsRow w.heap.size 22 1 (.slice (some ⟨w1.heap.size, 0, none⟩) k S.length) k vs) ∧ Hid (Only (fun j => j = w1.heap.size) w2 wr) ∧ Hid (∀ j, j < k → IsLB wr.heap.size wr (vs[j]?.getD undef) ((wts W).map fun b => at_ (wts S) j * b) ∧ Fresh w2.heap.size (vs[j]?.getD undef)) ∧ Hid (∀ u ∈ vs, u.oneCell' = true)) (fun _ i _ => (wts S).length - (intOf i).toNat)
  case atStart => exact ⟨0, [], rfl, rfl, Nat.zero_le _, rfl, hown0, hide (Only.refl _ _), hide (by intro j hj; omega), hide (by simp)⟩
  case round =>
    obtain ⟨k, vs, rfl, rfl, hk, hvl, hown, ho, hrows, hone⟩ := hrel
    obtain ⟨wo, rfl⟩ : ∃ wo : World, wo = wr := ⟨_, rfl⟩
    have hwz : w2.heap.size ≤ wo.heap.size := ho.out.size
    by_cases hlt : k < (wts S).length
    · have hsr : IsLB w2.heap.size wo (.slice a5 (wts S).length c5) (wts S) := HS2.out.only' (Nat.le_refl _) HFS.out (by intro j hj; omega) ho.out
      obtain ⟨a6, c6, e6, _, _, _, k6⟩ := hsr
      cases e6
      obtain ⟨b6, o6, rfl, hb6, q6⟩ := k6 (by intro h; rw [h] at hlt; simp at hlt)
      have d6 : wo.cell? ⟨b6, o6 + k, none⟩ = some (.int .i64 (at_ (wts S) k)) := q6 k hlt
      have hkS : k < S.length := by have := hsl.out; omega
      obtain ⟨x, hx⟩ : ∃ x, at_ (wts S) k = x := ⟨_, rfl⟩
      have hxl := HLS.out k
      rw [hx] at d6 hxl
      have HX := hide hx; clear hx q6 k6
      obtain ⟨hxl1, hxl2⟩ := hxl
      have hl3 : (k : Int) < (wts S).length := by omega
      have hmade : (wo.alloc (.cells (ints (List.replicate (wts W).length 0)) 3)).ownsRow w2.heap.size 3 1 (.slice (some ⟨wo.heap.size, 0, none⟩) 0 (wts W).length) 0 [] := World.ownsRow_made _ _ _ hwz (by unfold maxLen; have := hwl.out; omega) (by simp [ints])
      have HMADE := hide hmade; clear hmade
      have huo : IsLB w1.heap.size wo (.slice au (wts W).length cu) (wts W) := IsLB.below HU2.out (ho.out.below (by omega) (by intro j hj; omega))
      have HUO := hide huo; clear huo
      go_wp2
      go_loopw [9, 29] (fun r j wr => ∃ q : Nat, r = .slice (some ⟨wo.heap.size, 0, none⟩) q (wts W).length ∧ j = .int .i64 q ∧ q ≤ (wts W).length ∧ Hid (wr.ownsRow w2.heap.size 3 1 (.slice (some ⟨wo.heap.size, 0, none⟩) q (wts W).length) q (((wts W).take q).map fun b => .int .i64 (x * b))) ∧ Hid (Only (fun j => j = wo.heap.size) (wo.alloc (.cells (ints (List.replicate (wts W).length 0)) 3)) wr)) (fun _ j _ => (wts W).length - (intOf j).toNat)
      case atStart => exact ⟨0, rfl, rfl, Nat.zero_le _, by simpa using HMADE, hide (Only.refl _ _)⟩
      case round =>
        obtain ⟨q, rfl, rfl, hq, hrow, hoi⟩ := hrel
        have hsz : wo.heap.size + 1 ≤ wr.heap.size := by have := hoi.out.size; simpa using this
        by_cases hql : q < (wts W).length
        · have hur : IsLB w1.heap.size wr (.slice au (wts W).length cu) (wts W) := (IsLB.below HUO.out (((Below.refl _ _).alloc (Nat.le_refl _) _).mono (by omega))).below (hoi.out.below (by simp; omega) (by intro j hj; omega))
          obtain ⟨a7, c7, e7, _, _, _, k7⟩ := hur
          cases e7
          obtain ⟨b7, o7, rfl, hb7, q7⟩ := k7 (by intro h; rw [h] at hql; simp at hql)
          have d7 : wr.cell? ⟨b7, o7 + q, none⟩ = some (.int .i64 (at_ (wts W) q)) := q7 q hql
          have htake : (wts W).take (q + 1) = (wts W).take q ++ [at_ (wts W) q] := by rw [List.take_succ_eq_append_getElem hql, at_get hql]
          obtain ⟨y, hy⟩ : ∃ y, at_ (wts W) q = y := ⟨_, rfl⟩
          have hyl := HLW.out q
          rw [hy] at d7 htake hyl
          have HTAKE := hide htake
          clear hy q7 k7 htake
          obtain ⟨hyl1, hyl2⟩ := hyl
          have hmul := mul_lim (a := x) (b := y) (K := 480000000) (V := 480000000) ⟨hxl1, hxl2⟩ ⟨hyl1, hyl2⟩
          obtain ⟨hm1, hm2⟩ := hmul
          have hl7 : (q : Int) < (wts W).length := by omega
          go_wp2_with (at_builtin; refine wpList_append_fits _ rfl (.tmp 33) (.tmp 37) 22 rfl w2.heap.size 3 j0 1 Tryd.underlying22 hj hy1 wo.heap.size q (wts W).length _ rfl (hrow.out.alloc _) ⟨wr.heap.size, 0, none⟩ 1 1 [.int .i64 (x * y)] rfl rfl (cell_one_new _ _ _) (by simp [Value.oneCell']) (by omega) ?_; intro w5 hown5 hgrow5)
          go_roundw
          case rel => exact ⟨q + 1, rfl, by go_num, by omega, hide (by rw [HTAKE.out, List.map_append]; exact hown5), hide ((hoi.out.alloc _).grown hgrow5 rfl)⟩
          case measure => simp [intOf]; omega
        · have hl7 : ¬ ((q : Int) < (wts W).length) := by omega
          have hqe : q = (wts W).length := by omega
          have hrw := hrow.out
          rw [hqe, List.take_length] at hrw
          have hbw : Below wo.heap.size wo wr := ((Below.refl _ _).alloc (Nat.le_refl _) _).trans (hoi.out.below (by simp) (by intro j hj; omega))
          have hrl : IsL wr (.slice (some ⟨wo.heap.size, 0, none⟩) (wts W).length (wts W).length) ((wts W).map fun b => x * b) := by
            refine IsL.of_own (n := (wts W).length) (by rw [List.map_map]; exact hrw) ?_
            intro z hz
            obtain ⟨b, hb, rfl⟩ := List.mem_map.1 hz
            obtain ⟨j, hj, rfl⟩ := List.mem_iff_getElem.1 hb
            have h1 := HLW.out j
            rw [at_get hj] at h1
            have := mul_lim (a := x) (b := (wts W)[j]) (K := 480000000) (V := 480000000) ⟨hxl1, hxl2⟩ h1
            exact ⟨by omega, by omega⟩
          have hgr := (hown.out.alloc (.cells (ints (List.replicate (wts W).length 0)) 3)).kept hoi.out.gb (.inr (by simp [Value.ownBlock]; omega))
          have HGR := hide hgr; have HRL := hide hrl; have HQE := hide hqe; have HBW := hide hbw
          clear hgr hrl hrw hqe hbw
          go_wp2_with (at_builtin; refine wpList_append_fits _ rfl (.tmp 40) (.tmp 42) 23 rfl w.heap.size 22 i0 1 Tryd.underlying23 hi hz1 w1.heap.size k S.length _ rfl (HGR.out.alloc _) ⟨wr.heap.size, 0, none⟩ 1 1 [.slice (some ⟨wo.heap.size, 0, none⟩) q (wts W).length] rfl rfl (cell_one_new _ _ _) (by simp [Value.oneCell']) (by omega) ?_; intro w5 hown5 hgrow5)
          have hfr : Fresh w2.heap.size (.slice (some ⟨wo.heap.size, 0, none⟩) q (wts W).length) := fun j hj => by simp [Value.ownBlock] at hj; omega
          have hon : Only (fun j => j = w1.heap.size) wr w5 := ((Only.refl _ _).alloc _).grown hgrow5 rfl
          have HFR := hide hfr; have HON := hide hon
          have hsz5 : wr.heap.size ≤ w5.heap.size := hon.size
          clear hfr hon
          go_roundw
          case rel =>
            refine ⟨k + 1, vs ++ [.slice (some ⟨wo.heap.size, 0, none⟩) q (wts W).length], rfl, by go_num, by omega, hide (by simp [hvl.out]), hide hown5, hide ((ho.out.trans (Only.of_below HBW.out)).trans HON.out), hide ?_, hide ?_⟩
            · intro j hj
              by_cases hjk : j < k
              · have h1 := hrows.out j hjk
                rw [List.getElem?_append_left (by have := hvl.out; omega)]
                exact ⟨((h1.1.below HBW.out).only' HBW.out.size h1.2 (by intro i hi; omega) HON.out).more (by have := HBW.out.size; omega), h1.2⟩
              · have hjk' : j = k := by omega
                subst hjk'
                rw [List.getElem?_append_right (by have := hvl.out; omega), show j - vs.length = 0 by have := hvl.out; omega, HX.out]
                refine ⟨?_, HFR.out⟩
                have := (IsLB.only' HRL.out (Nat.le_refl _) (HQE.out ▸ HFR.out) (by intro i hi; omega) HON.out).more hsz5
                simpa [HQE.out] using this
            · intro u hu
              rcases List.mem_append.1 hu with hu | hu
              · exact hone.out u hu
              · simp at hu; subst hu; rfl
          case measure => simp [intOf]; omega
    · have hl3 : ¬ ((k : Int) < (wts S).length) := by omega
      have hke : k = (wts S).length := by omega
      have hkS : k = S.length := by have := hsl.out; omega
      have hfin : IsRB wo.heap.size wo (.slice (some ⟨w1.heap.size, 0, none⟩) k S.length) vs (gridL S W) := by
        have hgl : (gridL S W).length = k := by unfold gridL; rw [List.length_map]; exact hke.symm
        refine ⟨by rw [hgl]; exact hvl.out, fun i hi => ?_, some ⟨w1.heap.size, 0, none⟩, S.length, by rw [hgl], by rw [hgl]; omega, by unfold maxLen; omega, fun _ => ⟨w1.heap.size, 0, rfl, by omega, fun i hi => ?_⟩⟩
        · rw [hgl] at hi
          have := (hrows.out i hi).1
          have e : (gridL S W)[i]?.getD [] = (wts W).map fun b => at_ (wts S) i * b := by unfold gridL; rw [List.getElem?_map, List.getElem?_eq_getElem (by omega), at_get (by omega)]; rfl
          rw [e]; exact this
        · rw [hgl] at hi
          rw [Nat.zero_add, hown.out.cellAt _ (by omega), List.getElem?_eq_getElem (by have := hvl.out; omega)]; rfl
      have HFIN := hide hfin; clear hfin hke hkS
      go_wp2
      go_ret
      exact ⟨_, rfl, ⟨vs, HFIN.out, (fun j hj => by simp [Value.ownBlock] at hj; have := hb1.size; omega), fun i hi j hj => by have h1 := (hrows.out i (by have := hvl.out; omega)).2 j hj; have := hb1.size; omega⟩, hb3.trans (ho.out.below hb3.size (by intro j hj; have := hb1.size; omega))⟩
end Go.Proofs.YtfbgnnelnpcbiaaDoor

namespace Go.Proofs.YtfbgnnelnpcbiaaDoor
open Go.RowKit Go.Shelf

attribute [local go_sem] Oper.semAt_some

def vAt (vs : List Value) (i : Nat) : Value := if i < vs.length then vs[i]?.getD undef else .slice none 0 0

theorem vAt_lt {vs : List Value} {i : Nat} (h : i < vs.length) : vAt vs i = vs[i]?.getD undef := by unfold vAt; rw [if_pos h]

set_option maxRecDepth 100000 in
set_option maxHeartbeats 2000000 in
/-- pairs of two lists of rows: the closure that is ranged over. -/
theorem pairsR_in (F : Fence) (n : Nat) (h7 : F.fn 40) (hro : F.round = none) (hn : 1 ≤ n) (l B1 B2 n₀ : Nat) (v1 v2 : Value) (us vs : List Value) (xs ys : List (List Int)) (hxs : 0 < xs.length) (hl : xs.length = ys.length) (J Jx : List Nat → World → Prop)
    (hY : ∀ pre x W, J pre W → pre.length < xs.length → YieldAt F (n - 1) Tryd.prog l #[vAt us x, vAt vs x] W fun e W' =>
      (e = .returned (.bool true) ∧ J (pre ++ [x]) W' ∧ KpP n₀ B1 B2 W W') ∨ (e = .returned (.bool false) ∧ Jx (pre ++ [x]) W'))
    (W : World) (hc1 : W.cell? ⟨B1, 0, none⟩ = some v1) (hc2 : W.cell? ⟨B2, 0, none⟩ = some v2) (i1 : IsRB n₀ W v1 us xs) (i2 : IsRB n₀ W v2 vs ys) (h0 : J [] W) :
    CallsIn F n Tryd.prog 40 #[.func (.yield l) #[] #[], .pointer (some ⟨B1, 0, none⟩), .pointer (some ⟨B2, 0, none⟩)] W fun e W' => (∃ v, e = .returned v) ∧
      ((∃ zs, zs = List.range xs.length ∧ J zs W') ∨ (∃ pre, (∃ k, k ≤ xs.length ∧ pre = List.range k) ∧ Jx pre W')) := by
  obtain ⟨hu0, hu1, a1, c1, rfl, l1, m1, k1⟩ := i1
  obtain ⟨hv0, hv1, a2, c2, rfl, l2, m2, k2⟩ := i2
  unfold maxLen at m1 m2
  obtain ⟨b1, o1, rfl, hb1, q1⟩ := k1 (by intro h; rw [h] at hxs; simp at hxs)
  obtain ⟨b2, o2, rfl, hb2, q2⟩ := k2 (by intro h; rw [h] at hl; simp only [List.length_nil] at hl; omega)
  have HL := hide hl; have HU0 := hide hu0; have HV0 := hide hv0; have HU1 := hide hu1; have HV1 := hide hv1
  clear hl k1 k2 hu0 hv0 hu1 hv1
  have Q1 := hide q1; have Q2 := hide q2; clear q1 q2
  have HY := hide hY; clear hY
  refine callsIn_of_wp Tryd.func40 rfl h7 ?_ hro
  simp only [Tryd.ntmps40, List.size_toArray, List.length_cons, List.length_nil, Nat.reduceAdd, Nat.reduceSub, Array.replicate_succ, Array.replicate_zero, List.push_toArray, List.append_toArray, List.nil_append, List.cons_append]
  gi_wp2
  gi_loopw [8] (fun i wr => ∃ k : Nat, k ≤ xs.length ∧ i = .int .i64 k ∧ J (List.range k) wr ∧ KpP n₀ B1 B2 W wr)
    (fun i _ => xs.length - (intOf i).toNat)
  case atStart => exact ⟨0, Nat.zero_le _, rfl, h0, KpP.refl _ _ _ _⟩
  case round =>
    obtain ⟨k, hk, rfl, hJs, hnx⟩ := hrel
    by_cases hlt : k < xs.length
    · obtain ⟨fn, tmps, assign, body, hy, hR⟩ := HY.out _ k wr hJs (by simpa using hlt)
      have hlt2 : k < ys.length := by have := HL.out; omega
      rw [vAt_lt (by rw [HU0.out]; exact hlt), vAt_lt (by rw [HV0.out]; exact hlt2)] at hy
      have d1 : wr.cell? ⟨b1, o1 + k, none⟩ = some (us[k]?.getD undef) := (hnx.1.cell (p := ⟨b1, o1 + k, none⟩) hb1).trans (Q1.out k hlt)
      have d2 : wr.cell? ⟨b2, o2 + k, none⟩ = some (vs[k]?.getD undef) := (hnx.1.cell (p := ⟨b2, o2 + k, none⟩) hb2).trans (Q2.out k hlt2)
      have hx1 := HU1.out k hlt
      have hx2 := HV1.out k hlt2
      generalize xs[k]?.getD [] = r1 at hx1
      generalize ys[k]?.getD [] = r2 at hx2
      obtain ⟨a5, c5, e5, _⟩ := hx1
      obtain ⟨a6, c6, e6, _⟩ := hx2
      rw [e5] at hy d1
      rw [e6] at hy d2
      clear e5 e6
      have e2 : wr.cell? ⟨B2, 0, none⟩ = some (.slice (some ⟨b2, o2, none⟩) ys.length c2) := (World.cell?_of_block (w := W) hnx.2.2).trans hc2
      have hl3 : (k : Int) < xs.length := by omega
      have hl4 : (k : Int) < ys.length := by omega
      gi_wp2
      refine hR.mono ?_
      rintro e W3 (⟨rfl, hJ3, hk3⟩ | ⟨rfl, hJx3⟩)
      · gi_wp2
        go_roundw
        case rel => exact ⟨k + 1, by omega, by simp, by rw [List.range_succ]; exact hJ3, hnx.trans hk3⟩
        case measure => simp [intOf]; omega
      · gi_wp2
        refine bodyPost_ret (results_none rfl _ _ _) rfl ?_
        exact ⟨⟨_, rfl⟩, .inr ⟨_, ⟨k + 1, by omega, List.range_succ.symm⟩, hJx3⟩⟩
    · obtain rfl : k = xs.length := by omega
      gi_wp2
      go_end0
      exact ⟨⟨_, rfl⟩, .inl ⟨_, rfl, hJs⟩⟩

theorem pairsR_stops (F : Fence) (n : Nat) (h7 : F.fn 40) (hro : F.round = none) (hn : 1 ≤ n) (B1 B2 n₀ : Nat) (v1 v2 : Value) (us vs : List Value) (xs ys : List (List Int)) (hxs : 0 < xs.length) (hl : xs.length = ys.length) (w : World)
    (hB1 : B1 < w.heap.size) (hB2 : B2 < w.heap.size) (hn₀ : n₀ ≤ w.heap.size) (hc1 : w.cell? ⟨B1, 0, none⟩ = some v1) (hc2 : w.cell? ⟨B2, 0, none⟩ = some v2) (i1 : IsRB n₀ w v1 us xs) (i2 : IsRB n₀ w v2 vs ys) :
    SeqStopsK F n Tryd.prog 40 #[.pointer (some ⟨B1, 0, none⟩), .pointer (some ⟨B2, 0, none⟩)] (fun x : Nat => #[vAt us x, vAt vs x]) (KpP n₀ B1 B2) (fun zs => zs = List.range xs.length) (fun _ => True) xs.length w :=
  fun l J Jx W hW _ _ hY h0 => (pairsR_in F n h7 hro hn l B1 B2 n₀ v1 v2 us vs xs ys hxs hl J Jx hY W ((hW.cell (p := ⟨B1, 0, none⟩) hB1).trans hc1) ((hW.cell (p := ⟨B2, 0, none⟩) hB2).trans hc2) (i1.below (hW.mono hn₀)) (i2.below (hW.mono hn₀)) h0).mono
    fun e W' ⟨he, h⟩ => ⟨he, h.imp id fun ⟨pre, _, hp⟩ => ⟨pre, trivial, hp⟩⟩

set_option maxHeartbeats 1000000 in
theorem pairsR_call (F : Fence) (n : Nat) (h5 : F.fn 20) (hro : F.round = none) (v1 v2 : Value) (a1 a2 : Option Addr) (n1 n2 c1 c2 : Nat) (e1 : v1 = .slice a1 n1 c1) (e2 : v2 = .slice a2 n2 c2) (w : World) :
    CallsIn F n Tryd.prog 20 #[v1, v2] w fun e w' => e = .returned (.func (.func 40) #[] #[.pointer (some ⟨w.heap.size, 0, none⟩), .pointer (some ⟨w.heap.size + 1, 0, none⟩)]) ∧ w' = (w.alloc (.cells #[v1] 23)).alloc (.cells #[v2] 23) := by
  subst e1; subst e2
  refine callsIn_of_wp Tryd.func20 rfl h5 ?_ hro
  simp only [Tryd.ntmps20, List.size_toArray, List.length_cons, List.length_nil, Nat.reduceAdd, Nat.reduceSub, Array.replicate_succ, Array.replicate_zero, List.push_toArray, List.append_toArray, List.nil_append, List.cons_append]
  gi_wp2
  go_ret
  exact ⟨rfl, rfl⟩
end Go.Proofs.YtfbgnnelnpcbiaaDoor

namespace Go.Proofs.YtfbgnnelnpcbiaaDoor
open Go.RowKit Go.Shelf

def absS (L : List (Nat × Int)) : Int := L.foldr (fun p s => (p.2.natAbs : Int) + s) 0
theorem absS_nil : absS [] = 0 := rfl
theorem absS_cons (p : Nat × Int) (L : List (Nat × Int)) : absS (p :: L) = (p.2.natAbs : Int) + absS L := rfl
theorem absS_app (L M : List (Nat × Int)) : absS (L ++ M) = absS L + absS M := by
  induction L with
  | nil => simp [absS_nil]
  | cons p L ih => rw [List.cons_append, absS_cons, absS_cons, ih]; omega

theorem foldW_abs (L : List (Nat × Int)) : ∀ (M : Int) (l : List Int), Lim M l → Lim (M + absS L) (L.foldl addW l) := by
  induction L with
  | nil => intro M l h; simpa [absS_nil] using h
  | cons p L ih =>
    intro M l h
    have := ih (M + (p.2.natAbs : Int)) (addW l p) (addW_lim h (by omega) (by omega))
    rw [List.foldl_cons, absS_cons, ← Int.add_assoc]; exact this

theorem con_abs {xs : List Int} (hp : Pos xs) (i : Nat) (hi : i + many xs i < xs.length) : absS (con xs (i, many xs i)) ≤ 48 * (at_ xs (i + many xs i) - at_ xs i) := by
  rcases many_or xs i with h | h
  · rw [h] at hi ⊢
    have u := hp.up i hi
    have e : con xs (i, 1) = [(i, 18 * (at_ xs (i + 1) - at_ xs i)), (i + 1, 18 * (at_ xs (i + 1) - at_ xs i))] := by unfold con; simp
    rw [e]
    simp only [absS_cons, absS_nil]
    omega
  · rw [h] at hi ⊢
    have hr := (many_two h).2
    have u := hp.up i (by omega)
    have v : at_ xs (i + 1) < at_ xs (i + 2) := hp.up (i + 1) hi
    obtain ⟨a, ha⟩ : ∃ a, at_ xs (i + 1) - at_ xs i = a := ⟨_, rfl⟩
    obtain ⟨b, hb⟩ : ∃ b, at_ xs (i + 2) - at_ xs (i + 1) = b := ⟨_, rfl⟩
    rw [ha, hb] at hr
    have hs : at_ xs (i + 2) - at_ xs i = a + b := by omega
    rw [hs]
    by_cases hord : a ≤ b
    · obtain ⟨hk, h1 | h2 | h3⟩ := rat_lt rfl hr hord (by omega)
      · rw [con_two ha hb h1, Int.min_eq_left hord, if_neg (by omega), if_neg (by omega)]; simp only [absS_cons, absS_nil]; omega
      · rw [con_two ha hb h2, Int.min_eq_left hord, if_neg (by omega), if_neg (by omega)]; rw [h2] at hk; simp only [absS_cons, absS_nil]; omega
      · rw [con_two ha hb h3, Int.min_eq_left hord, if_neg (by omega), if_neg (by omega)]; rw [h3] at hk; simp only [absS_cons, absS_nil]; omega
    · obtain ⟨hk, h2 | h3⟩ := rat_gt rfl hr (by omega) (by omega)
      · rw [con_two ha hb h2, Int.min_eq_right (by omega), if_pos (by omega), if_pos (by omega)]; rw [h2] at hk; simp only [absS_cons, absS_nil]; omega
      · rw [con_two ha hb h3, Int.min_eq_right (by omega), if_pos (by omega), if_pos (by omega)]; rw [h3] at hk; simp only [absS_cons, absS_nil]; omega

theorem grF_abs {xs : List Int} (hp : Pos xs) (f : Nat) : ∀ i, i < xs.length → ∃ j, i ≤ j ∧ j < xs.length ∧ absS ((grF xs f i).flatMap (con xs)) ≤ 48 * (at_ xs j - at_ xs i) := by
  induction f with
  | zero => intro i hi; exact ⟨i, Nat.le_refl _, hi, by simp [grF, absS_nil]⟩
  | succ f ih =>
    intro i hi
    unfold grF
    split
    · rename_i h
      have hm : i + many xs i < xs.length := by unfold many; split <;> omega
      have hm1 := many_or xs i
      obtain ⟨j, h1, h2, h3⟩ := ih (i + many xs i) hm
      refine ⟨j, by omega, h2, ?_⟩
      rw [List.flatMap_cons, absS_app]
      have := con_abs hp i hm
      omega
    · exact ⟨i, Nat.le_refl _, hi, by simp [absS_nil]⟩

theorem wts_tight {xs : List Int} (hp : Pos xs) (D : Int) (hD : ∀ i, i < xs.length → at_ xs i ≤ D) : Lim (48 * D) (wts xs) := by
  obtain ⟨j, _, h2, h3⟩ := grF_abs hp xs.length 0 (by have := hp.lo; omega)
  have h4 := foldW_abs (cons xs) 0 (List.replicate xs.length 0) (lim_zero _)
  have h5 := hD j h2
  have h6 := hp.bd 0 (by have := hp.lo; omega)
  intro i
  have := h4 i
  unfold wts
  have h7 : absS (cons xs) ≤ 48 * (at_ xs j - at_ xs 0) := h3
  omega

def rowAt (G : List (List Int)) (i : Nat) : List Int := G[i]?.getD []
def cellP (G H : List (List Int)) (i k : Nat) : Int := at_ (rowAt G i) k * at_ (rowAt H i) k
def addF (f : Nat → Int) (s : Int) (i : Nat) : Int := s + f i
/-- What is added up of a row. -/
def rowSum (G H : List (List Int)) (i : Nat) : Int := (List.range (rowAt G i).length).foldl (addF (cellP G H i)) 0
def sideF (G H : List (List Int)) : Int := (List.range G.length).foldl (addF (rowSum G H)) 0

theorem addF_shift (f : Nat → Int) (L : List Nat) : ∀ s, L.foldl (addF f) s = s + L.foldl (addF f) 0 := by
  induction L with
  | nil => intro s; simp
  | cons a L ih => intro s; rw [List.foldl_cons, List.foldl_cons, ih (addF f s a), ih (addF f 0 a)]; unfold addF; omega

theorem addF_lim (f : Nat → Int) (M : Int) (hM : 0 ≤ M) (hf : ∀ i, -M ≤ f i ∧ f i ≤ M) (L : List Nat) : ∀ s A, -A ≤ s → s ≤ A → -(A + M * L.length) ≤ L.foldl (addF f) s ∧ L.foldl (addF f) s ≤ A + M * L.length := by
  induction L with
  | nil => intro s A h1 h2; simp; omega
  | cons a L ih =>
    intro s A h1 h2
    have := hf a
    have h3 := ih (addF f s a) (A + M) (by unfold addF; omega) (by unfold addF; omega)
    rw [List.foldl_cons, List.length_cons]
    have e : M * ((L.length + 1 : Nat) : Int) = M + M * (L.length : Int) := by rw [Int.natCast_add, Int.mul_add]; omega
    rw [e]; omega

theorem tab_ok {S W : List Int} {H : List (List Int)} (h : tabE S W H = 0) : Pos S ∧ Pos W ∧ W.length ≤ 7 ∧ (∀ i, i < W.length → at_ W i ≤ 15000) ∧ H.length = S.length ∧ (∀ i, i < H.length → (rowAt H i).length = W.length) ∧ ∀ i, Lim 20000 (rowAt H i) := by
  unfold tabE at h; split at h
  · rename_i hh
    unfold tabB planB at hh
    simp only [Bool.and_eq_true, decide_eq_true_eq] at hh
    obtain ⟨⟨⟨⟨⟨h1, h2⟩, h3⟩, h4⟩, h5⟩, h6⟩ := hh
    have hr : ∀ i (hi : i < H.length), rowB W (rowAt H i) = true := fun i hi => by
      have := (List.all_eq_true.1 h6) _ (List.getElem_mem hi)
      unfold rowAt; rw [List.getElem?_eq_getElem hi]; exact this
    refine ⟨Pos.of h1, Pos.of h2, by omega, fun i hi => ?_, h5, fun i hi => ?_, fun i k => ?_⟩
    · have := (List.all_eq_true.1 h4) _ (List.getElem_mem hi)
      rw [at_get hi]; simp [inB] at this; omega
    · have := hr i hi
      unfold rowB at this
      simp only [Bool.and_eq_true, decide_eq_true_eq] at this
      exact this.1
    · by_cases hi : i < H.length
      · have := hr i hi
        unfold rowB at this
        simp only [Bool.and_eq_true, decide_eq_true_eq] at this
        by_cases hk : k < (rowAt H i).length
        · have h7 := (List.all_eq_true.1 this.2) _ (List.getElem_mem hk)
          rw [at_get hk]; simp [inB] at h7; omega
        · unfold at_; rw [List.getElem?_eq_none (by omega)]; simp
      · have e : rowAt H i = [] := by unfold rowAt; rw [List.getElem?_eq_none (by omega)]; rfl
        rw [e]; unfold at_; simp
  · simp at h
theorem tabE_or (S W : List Int) (H : List (List Int)) : tabE S W H = 0 ∨ tabE S W H = 13 := by unfold tabE; split <;> simp

theorem grid_lim {S W : List Int} (hS : Pos S) (hW : Pos W) (hw : ∀ i, i < W.length → at_ W i ≤ 15000) (i : Nat) : Lim 3456000000000 (rowAt (gridL S W) i) := by
  have h1 := wts_tight hS 100000 (fun j hj => (hS.bd j hj).2)
  have h2 := wts_tight hW 15000 hw
  intro k
  unfold rowAt gridL
  by_cases hi : i < (wts S).length
  · rw [List.getElem?_map, List.getElem?_eq_getElem hi]
    simp only [Option.map_some, Option.getD_some]
    by_cases hk : k < (wts W).length
    · have e : at_ ((wts W).map fun b => (wts S)[i] * b) k = (wts S)[i] * at_ (wts W) k := by unfold at_; rw [List.getElem?_map, List.getElem?_eq_getElem hk]; rfl
      rw [e]
      have h3 := h1 i
      rw [at_get hi] at h3
      have := mul_lim (a := (wts S)[i]) (b := at_ (wts W) k) (K := 4800000) (V := 720000) (by omega) (by have := h2 k; omega)
      omega
    · unfold at_; rw [List.getElem?_eq_none (by rw [List.length_map]; omega)]; simp
  · rw [List.getElem?_map, List.getElem?_eq_none (by omega)]; unfold at_; simp

theorem cellP_lim {S W : List Int} {H : List (List Int)} (h : tabE S W H = 0) (i k : Nat) : -69120000000000000 ≤ cellP (gridL S W) H i k ∧ cellP (gridL S W) H i k ≤ 69120000000000000 := by
  obtain ⟨h1, h2, _, h4, _, _, h7⟩ := tab_ok h
  have := mul_lim (grid_lim h1 h2 h4 i k) (h7 i k)
  unfold cellP; omega
theorem gridL_len (S W : List Int) : (gridL S W).length = S.length := by unfold gridL; rw [List.length_map, wts_len]
theorem gridL_row {S W : List Int} (i : Nat) (hi : i < S.length) : (rowAt (gridL S W) i).length = W.length := by
  unfold rowAt gridL; rw [List.getElem?_map, List.getElem?_eq_getElem (by rw [wts_len]; exact hi)]; simp [wts_len]
theorem row_len {S W : List Int} {H : List (List Int)} (h : tabE S W H = 0) (i : Nat) : (rowAt (gridL S W) i).length = (rowAt H i).length ∧ (rowAt (gridL S W) i).length ≤ 7 := by
  obtain ⟨_, _, h3, _, h5, h6, _⟩ := tab_ok h
  by_cases hi : i < S.length
  · exact ⟨by rw [gridL_row i hi, h6 i (by omega)], by rw [gridL_row i hi]; exact h3⟩
  · have e : rowAt (gridL S W) i = [] := by unfold rowAt; rw [List.getElem?_eq_none (by rw [gridL_len]; omega)]; rfl
    refine ⟨?_, by rw [e]; simp⟩
    rw [e]; unfold rowAt
    rw [List.getElem?_eq_none (by omega)]; rfl
theorem rowSum_lim {S W : List Int} {H : List (List Int)} (h : tabE S W H = 0) (i : Nat) : -483840000000000000 ≤ rowSum (gridL S W) H i ∧ rowSum (gridL S W) H i ≤ 483840000000000000 := by
  have := addF_lim (cellP (gridL S W) H i) 69120000000000000 (by omega) (cellP_lim h i) (List.range (rowAt (gridL S W) i).length) 0 0 (by omega) (by omega)
  have h2 := (row_len h i).2
  rw [List.length_range] at this
  unfold rowSum; omega
theorem side_lim {S W : List Int} {H : List (List Int)} (h : tabE S W H = 0) (pre : List Nat) (hl : pre.length ≤ 9) : -4354560000000000000 ≤ pre.foldl (addF (rowSum (gridL S W) H)) 0 ∧ pre.foldl (addF (rowSum (gridL S W) H)) 0 ≤ 4354560000000000000 := by
  have := addF_lim (rowSum (gridL S W) H) 483840000000000000 (by omega) (rowSum_lim h) pre 0 0 (by omega) (by omega)
  omega
theorem addF_snoc (f : Nat → Int) (pre : List Nat) (x : Nat) (s : Int) : (pre ++ [x]).foldl (addF f) s = pre.foldl (addF f) s + f x := by rw [List.foldl_append]; rfl
end Go.Proofs.YtfbgnnelnpcbiaaDoor
