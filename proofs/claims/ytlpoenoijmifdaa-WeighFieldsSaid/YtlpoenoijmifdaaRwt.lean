import Derived.Test.YtlpoenoijmifdaaInt
set_option linter.unusedVariables false
set_option linter.unusedSimpArgs false
namespace Go.Proofs.Ytlpoenoijmifdaa
open Go.RowKit

theorem row2 {w : World} {wb i : Nat} {l : List Int} {p q v0 v1 : Int} (h : Blk w wb 3 (ints l)) (e0 : v0 = at_ l i + p) (e1 : v1 = at_ l (i + 1) + q) :
    Blk ((w.setCell ⟨wb, i, none⟩ (.int .i64 v0)).setCell ⟨wb, i + 1, none⟩ (.int .i64 v1)) wb 3 (ints ([(i, p), (i + 1, q)].foldl addW l)) := by
  have h1 := h.set i (.int .i64 v0)
  rw [ints_set] at h1
  have h2 := h1.set (i + 1) (.int .i64 v1)
  rw [ints_set] at h2
  subst e0; subst e1
  have e : [(i, p), (i + 1, q)].foldl addW l = (l.set i (at_ l i + p)).set (i + 1) (at_ l (i + 1) + q) := by
    simp only [List.foldl_cons, List.foldl_nil, addW]
    rw [at_set]; simp
  rw [e]; exact h2

theorem row3 {w : World} {wb i : Nat} {l : List Int} {p q r v0 v1 v2 : Int} (h : Blk w wb 3 (ints l)) (e0 : v0 = at_ l i + p) (e1 : v1 = at_ l (i + 1) + q) (e2 : v2 = at_ l (i + 2) + r) :
    Blk (((w.setCell ⟨wb, i, none⟩ (.int .i64 v0)).setCell ⟨wb, i + 1, none⟩ (.int .i64 v1)).setCell ⟨wb, i + 2, none⟩ (.int .i64 v2)) wb 3 (ints ([(i, p), (i + 1, q), (i + 2, r)].foldl addW l)) := by
  have h1 := row2 (p := p) (q := q) h e0 e1
  have h2 := h1.set (i + 2) (.int .i64 v2)
  rw [ints_set] at h2
  subst e2
  have e : [(i, p), (i + 1, q), (i + 2, r)].foldl addW l = ([(i, p), (i + 1, q)].foldl addW l).set (i + 2) (at_ l (i + 2) + r) := by
    simp only [List.foldl_cons, List.foldl_nil, addW]
    simp [at_set]
  rw [e]; exact h2

theorem Blk.drewN {w : World} {g : Nat} {t : TypeId} {cs : Array Value} (h : Blk w g t cs) (n : Nat) : Blk (w.drewN n) g t cs := h

theorem pre_lim {xs : List Int} (hp : Pos xs) {pre rest : List (Nat × Int)} (h : cons xs = pre ++ rest) : Lim 480000000 (pre.foldl addW (List.replicate xs.length 0)) := by
  obtain ⟨h1, h2⟩ := cons_bd hp
  rw [h] at h1 h2
  have hl : pre.length ≤ 24 := by simp at h1; omega
  have := foldW_lim 20000000 (by omega) pre 0 (List.replicate xs.length 0) (lim_zero _) fun q hq => (h2 q (by simp [hq])).2
  intro i
  have := this i
  omega

set_option maxRecDepth 100000 in
set_option maxHeartbeats 8000000 in
theorem rweights_w (a : Option Addr) (n cap : Nat) (xs : List Int) (w : World) (h : IsL w (.slice a n cap) xs) (hp : Pos xs) :
    Calls Try.prog 70 #[.slice a n cap] w fun e w' => ∃ v, e = .returned v ∧ IsL w' v (wts xs) ∧ Fresh w.heap.size v ∧ Below w.heap.size w w' := by
  have hn : n = xs.length := by obtain ⟨_, _, hv, _⟩ := h; cases hv; rfl
  subst hn
  have h9 := hp.hi
  have hmk := make_ints xs.length (by omega)
  have HH := hide h; clear h
  have hg := rgroups_w a xs.length cap xs (w.alloc (.cells (ints (List.replicate xs.length 0)) 3)) (HH.out.below ((Below.refl _ _).alloc (Nat.le_refl _) _)) hp
  have HG := hide hg; clear hg
  go_enter Try.func70, Try.ntmps70
  go_wp2_with (go_at_call 68; refine HG.out.mono ?_; rintro e w1 ⟨v, rfl, hv, hf, hb⟩; obtain ⟨a1, c1, rfl, l1, m1, k1⟩ := id hv)
  clear k1 l1
  unfold maxLen at m1
  have hz1 : w.heap.size + 1 ≤ w1.heap.size := by have := hb.size; simpa using this
  have hB1 : Below w.heap.size w w1 := ((Below.refl _ _).alloc (Nat.le_refl _) _).trans (hb.mono (by simp))
  have hrow0 : Blk w1 w.heap.size 3 (ints (List.replicate xs.length 0)) := (hb.block _ (by simp)).trans (Blk.new w 3 _)
  have HF := hide hf; clear hf
  have HP := hide hp
  obtain ⟨a0, cap0, e0, hl1, hl2, hfb, h4⟩ := id HH.out
  cases e0
  unfold maxLen at hl2
  obtain ⟨b, off, rfl, hbl, _⟩ := h4 (by intro h; subst h; have := hp.lo; simp at this)
  clear h4 hfb
  have hbd := grF_bd xs xs.length 0
  have HBD := hide hbd; clear hbd
  have hbw : b ≠ w.heap.size := by omega
  go_loopw [5] (fun i wr => ∃ k : Nat, i = .int .i64 k ∧ k ≤ (grs xs).length ∧ Hid (Blk wr w.heap.size 3 (ints ((((grs xs).take k).flatMap (con xs)).foldl addW (List.replicate xs.length 0)))) ∧ Hid (Only (fun j => j = w.heap.size) w1 wr)) (fun i _ => (grs xs).length - (intOf i).toNat)
  case atStart => exact ⟨0, rfl, Nat.zero_le _, hide (by simpa using hrow0), hide (Only.refl _ _)⟩
  case round =>
    obtain ⟨k, rfl, hk, hrow, ho⟩ := hrel
    have hwz : w1.heap.size ≤ wr.heap.size := ho.out.size
    have hgv := hv.only (S := fun j => j = w.heap.size) (Nat.le_refl _) HF.out (by intro j hj; subst hj; simp) ho.out
    have hBr : Below w.heap.size w wr := hB1.trans (ho.out.below (by omega) (by intro j hj; omega))
    have HBR := hide hBr; clear hBr
    by_cases hlt : k < (grs xs).length
    · have hxs := (IsLB.below (B := w.heap.size) HH.out HBR.out)
      obtain ⟨a0, cap0, e0, _, _, _, h4⟩ := hxs
      cases e0
      obtain ⟨_, _, e1, _, hcx⟩ := h4 (by intro h; have := HP.out.lo; rw [h] at this; simp at this)
      cases e1
      have HCX := hide hcx; clear hcx h4
      obtain ⟨a2, c2, e2, l2, m2, k2⟩ := hgv
      cases e2
      obtain ⟨gb, go, rfl, hgbl, hc⟩ := k2 (by intro h; rw [h] at hlt; simp at hlt)
      have hck := hc k hlt
      have hgk : (grs xs)[k]?.getD (0, 0) = (grs xs)[k] := by simp [hlt]
      have hmem := HBD.out (grs xs)[k] (List.getElem_mem hlt)
      obtain ⟨rest, hcut⟩ := cut_flat xs (grs xs) k hlt
      have htk := take_flat xs (grs xs) k hlt
      obtain ⟨g, hge⟩ : ∃ g, (grs xs)[k] = g := ⟨_, rfl⟩
      rw [hgk, hge] at hck
      rw [hge] at hmem hcut htk
      obtain ⟨gi, gm⟩ := g
      simp only at hck hmem
      obtain ⟨ck1, ck2⟩ := hck
      obtain ⟨_, mb, mo, mm⟩ := hmem
      have HM := hide mm; clear mm
      have ck3 : wr.cell? ⟨gb, go + (k * 2 + 1), none⟩ = some (.int .i64 (gm : Nat)) := ck2
      have hlim1 := pre_lim HP.out (pre := ((grs xs).take k).flatMap (con xs)) (rest := con xs (gi, gm) ++ rest) (by unfold cons; rw [hcut, List.append_assoc])
      obtain ⟨L, hL⟩ : ∃ L, (((grs xs).take k).flatMap (con xs)).foldl addW (List.replicate xs.length 0) = L := ⟨_, rfl⟩
      have hLl : L.length = xs.length := by rw [← hL, foldW_len]; simp
      rw [hL] at hrow hlim1
      have HTK : Hid ((((grs xs).take (k + 1)).flatMap (con xs)).foldl addW (List.replicate xs.length 0) = (con xs (gi, gm)).foldl addW L) := by show _ = _; rw [htk, List.foldl_append, hL]
      clear hcut htk hge hgk hc k2 hL
      have hl3 : (k : Int) < (grs xs).length := by omega
      have r0 : wr.cell? ⟨w.heap.size, gi, none⟩ = some (.int .i64 (at_ L gi)) := by rw [hrow.out.cell, ints_at _ _ (by omega)]
      have r1 : wr.cell? ⟨w.heap.size, gi + 1, none⟩ = some (.int .i64 (at_ L (gi + 1))) := by rw [hrow.out.cell, ints_at _ _ (by omega)]
      have f0 := hrow.out.frozen gi
      have f1 := hrow.out.frozen (gi + 1)
      have m0 := hlim1 gi
      have m1' := hlim1 (gi + 1)
      obtain ⟨m0a, m0b⟩ := m0
      obtain ⟨m1a, m1b⟩ := m1'
      have c0 : wr.cell? ⟨b, off + gi, none⟩ = some (.int .i64 (at_ xs gi)) := HCX.out gi (by omega)
      have c1 : wr.cell? ⟨b, off + (gi + 1), none⟩ = some (.int .i64 (at_ xs (gi + 1))) := HCX.out (gi + 1) (by omega)
      have u := HP.out.up gi (by omega)
      have b0 := HP.out.bd gi (by omega)
      have b1 := HP.out.bd (gi + 1) (by omega)
      have hi3 : (gi : Int) + 1 < xs.length := by omega
      have hi0 : (gi : Int) < xs.length := by omega
      rcases mo with rfl | rfl
      · simp only [Int.cast_ofNat_Int, Int.natCast_one] at ck2 ck3
        have hcon : con xs (gi, 1) = [(gi, 18 * (at_ xs (gi + 1) - at_ xs gi)), (gi + 1, 18 * (at_ xs (gi + 1) - at_ xs gi))] := by unfold con; simp
        have HCON := hide hcon; clear hcon
        obtain ⟨x, hx⟩ : ∃ x, at_ xs gi = x := ⟨_, rfl⟩
        obtain ⟨y, hy⟩ : ∃ x, at_ xs (gi + 1) = x := ⟨_, rfl⟩
        obtain ⟨s, hs⟩ : ∃ x, at_ L gi = x := ⟨_, rfl⟩
        obtain ⟨t, ht⟩ : ∃ x, at_ L (gi + 1) = x := ⟨_, rfl⟩
        rw [hx] at c0 u b0 HCON
        rw [hy] at c1 u b1 HCON
        rw [hs] at r0 m0a m0b
        rw [ht] at r1 m1a m1b
        have HSs := hide hs; have HTt := hide ht
        clear hx hy hs ht
        obtain ⟨b0a, b0b⟩ := b0
        obtain ⟨b1a, b1b⟩ := b1
        go_wp2
        go_quiet (fail)
        go_wp2
        go_roundw
        case rel => exact ⟨k + 1, by go_num, by omega, hide (by rw [HTK.out, HCON.out]; exact row2 (Blk.drewN hrow.out _) (by rw [HSs.out]) (by rw [HTt.out])), hide (((ho.out.drewN _).setCell _ _ rfl).setCell _ _ rfl)⟩
        case measure => simp [intOf]; omega
      · simp only [Int.cast_ofNat_Int] at ck2 ck3
        have hr := (many_two HM.out.symm).2
        have r2 : wr.cell? ⟨w.heap.size, gi + 2, none⟩ = some (.int .i64 (at_ L (gi + 2))) := by rw [hrow.out.cell, ints_at _ _ (by omega)]
        have f2 := hrow.out.frozen (gi + 2)
        have m2' := hlim1 (gi + 2)
        obtain ⟨m2a, m2b⟩ := m2'
        have c2 : wr.cell? ⟨b, off + (gi + 2), none⟩ = some (.int .i64 (at_ xs (gi + 2))) := HCX.out (gi + 2) (by omega)
        have v : at_ xs (gi + 1) < at_ xs (gi + 2) := HP.out.up (gi + 1) (by omega)
        have b2 := HP.out.bd (gi + 2) (by omega)
        have hi4 : (gi : Int) + 2 < xs.length := by omega
        have hct := fun kk (hk : rat (at_ xs (gi + 1) - at_ xs gi) (at_ xs (gi + 2) - at_ xs (gi + 1)) = kk) => con_two (xs := xs) (i := gi) rfl rfl hk
        obtain ⟨x, hx⟩ : ∃ x, at_ xs gi = x := ⟨_, rfl⟩
        obtain ⟨y, hy⟩ : ∃ x, at_ xs (gi + 1) = x := ⟨_, rfl⟩
        obtain ⟨z, hz⟩ : ∃ x, at_ xs (gi + 2) = x := ⟨_, rfl⟩
        obtain ⟨s, hs⟩ : ∃ x, at_ L gi = x := ⟨_, rfl⟩
        obtain ⟨t, ht⟩ : ∃ x, at_ L (gi + 1) = x := ⟨_, rfl⟩
        obtain ⟨q, hq⟩ : ∃ x, at_ L (gi + 2) = x := ⟨_, rfl⟩
        rw [hx] at c0 u b0
        rw [hy] at c1 u b1 v
        rw [hz] at c2 b2 v
        rw [hx, hy, hz] at hr
        simp only [hx, hy, hz] at hct
        rw [hs] at r0 m0a m0b
        rw [ht] at r1 m1a m1b
        rw [hq] at r2 m2a m2b
        have HSs := hide hs; have HTt := hide ht; have HQq := hide hq; have HCT := hide hct
        clear hx hy hz hs ht hq hct
        obtain ⟨b0a, b0b⟩ := b0
        obtain ⟨b1a, b1b⟩ := b1
        obtain ⟨b2a, b2b⟩ := b2
        have hcases : (z - y ≥ y - x ∧ (rat (y - x) (z - y) = 1 ∨ rat (y - x) (z - y) = 2 ∨ rat (y - x) (z - y) = 3)) ∨ (z - y < y - x ∧ (rat (y - x) (z - y) = 2 ∨ rat (y - x) (z - y) = 3)) := by
          by_cases hord : y - x ≤ z - y
          · have := (rat_lt rfl hr hord (by omega)).2; left; exact ⟨hord, this⟩
          · have := (rat_gt rfl hr (by omega) (by omega)).2; right; exact ⟨by omega, this⟩
        clear hr
        rcases hcases with ⟨hord, hr | hr | hr⟩ | ⟨hord, hr | hr⟩
        · have hcon := HCT.out _ hr
          rw [if_neg (show ¬ (z - y < y - x) by omega), if_neg (show ¬ (z - y < y - x) by omega), Int.min_eq_left (show y - x ≤ z - y by omega)] at hcon
          have HCON : Hid (con xs (gi, 2) = [(gi, 12 * (y - x)), (gi + 1, 48 * (y - x)), (gi + 2, 12 * (y - x))]) := by
            show _ = _; rw [hcon]; simp only [List.cons.injEq, Prod.mk.injEq, true_and, and_true]; refine ⟨?_, ?_, ?_⟩ <;> omega
          clear hcon HCT
          go_wp2
          go_quiet (fail)
          go_wp2
          go_quiet (fail)
          go_wp2_with (go_at_call 86; refine (times_w _ _ _ (by omega) (by omega) (by omega) (by omega)).mono ?_; rintro e w' ⟨rfl, rfl⟩)
          go_roundw
          case rel => exact ⟨k + 1, by go_num, by omega, hide (by rw [HTK.out, HCON.out]; exact row3 (Blk.drewN hrow.out _) (by rw [HSs.out] <;> omega) (by rw [HTt.out] <;> omega) (by rw [HQq.out] <;> omega)), hide ((((ho.out.drewN _).setCell _ _ rfl).setCell _ _ rfl).setCell _ _ rfl)⟩
          case measure => simp [intOf]; omega
        · have hcon := HCT.out _ hr
          rw [if_neg (show ¬ (z - y < y - x) by omega), if_neg (show ¬ (z - y < y - x) by omega), Int.min_eq_left (show y - x ≤ z - y by omega)] at hcon
          have HCON : Hid (con xs (gi, 2) = [(gi, 0 * (y - x)), (gi + 1, 81 * (y - x)), (gi + 2, 27 * (y - x))]) := by
            show _ = _; rw [hcon]; simp only [List.cons.injEq, Prod.mk.injEq, true_and, and_true]; refine ⟨?_, ?_, ?_⟩ <;> omega
          clear hcon HCT
          go_wp2
          go_quiet (fail)
          go_wp2
          go_quiet (fail)
          go_wp2_with (go_at_call 86; refine (times_w _ _ _ (by omega) (by omega) (by omega) (by omega)).mono ?_; rintro e w' ⟨rfl, rfl⟩)
          go_roundw
          case rel => exact ⟨k + 1, by go_num, by omega, hide (by rw [HTK.out, HCON.out]; exact row3 (Blk.drewN hrow.out _) (by rw [HSs.out] <;> omega) (by rw [HTt.out] <;> omega) (by rw [HQq.out] <;> omega)), hide ((((ho.out.drewN _).setCell _ _ rfl).setCell _ _ rfl).setCell _ _ rfl)⟩
          case measure => simp [intOf]; omega
        · have hcon := HCT.out _ hr
          rw [if_neg (show ¬ (z - y < y - x) by omega), if_neg (show ¬ (z - y < y - x) by omega), Int.min_eq_left (show y - x ≤ z - y by omega)] at hcon
          have HCON : Hid (con xs (gi, 2) = [(gi, -24 * (y - x)), (gi + 1, 128 * (y - x)), (gi + 2, 40 * (y - x))]) := by
            show _ = _; rw [hcon]; simp only [List.cons.injEq, Prod.mk.injEq, true_and, and_true]; refine ⟨?_, ?_, ?_⟩ <;> omega
          clear hcon HCT
          go_wp2
          go_quiet (fail)
          go_wp2
          go_quiet (fail)
          go_wp2_with (go_at_call 86; refine (times_w _ _ _ (by omega) (by omega) (by omega) (by omega)).mono ?_; rintro e w' ⟨rfl, rfl⟩)
          go_roundw
          case rel => exact ⟨k + 1, by go_num, by omega, hide (by rw [HTK.out, HCON.out]; exact row3 (Blk.drewN hrow.out _) (by rw [HSs.out] <;> omega) (by rw [HTt.out] <;> omega) (by rw [HQq.out] <;> omega)), hide ((((ho.out.drewN _).setCell _ _ rfl).setCell _ _ rfl).setCell _ _ rfl)⟩
          case measure => simp [intOf]; omega
        · have hcon := HCT.out _ hr
          rw [if_pos hord, if_pos hord, Int.min_eq_right (show z - y ≤ y - x by omega)] at hcon
          have HCON : Hid (con xs (gi, 2) = [(gi, 27 * (z - y)), (gi + 1, 81 * (z - y)), (gi + 2, 0 * (z - y))]) := by
            show _ = _; rw [hcon]; simp only [List.cons.injEq, Prod.mk.injEq, true_and, and_true]; refine ⟨?_, ?_, ?_⟩ <;> omega
          clear hcon HCT
          go_wp2
          go_quiet (fail)
          go_wp2
          go_quiet (fail)
          go_wp2_with (go_at_call 86; refine (times_w _ _ _ (by omega) (by omega) (by omega) (by omega)).mono ?_; rintro e w' ⟨rfl, rfl⟩)
          go_roundw
          case rel => exact ⟨k + 1, by go_num, by omega, hide (by rw [HTK.out, HCON.out]; exact row3 (Blk.drewN hrow.out _) (by rw [HSs.out] <;> omega) (by rw [HTt.out] <;> omega) (by rw [HQq.out] <;> omega)), hide ((((ho.out.drewN _).setCell _ _ rfl).setCell _ _ rfl).setCell _ _ rfl)⟩
          case measure => simp [intOf]; omega
        · have hcon := HCT.out _ hr
          rw [if_pos hord, if_pos hord, Int.min_eq_right (show z - y ≤ y - x by omega)] at hcon
          have HCON : Hid (con xs (gi, 2) = [(gi, 40 * (z - y)), (gi + 1, 128 * (z - y)), (gi + 2, -24 * (z - y))]) := by
            show _ = _; rw [hcon]; simp only [List.cons.injEq, Prod.mk.injEq, true_and, and_true]; refine ⟨?_, ?_, ?_⟩ <;> omega
          clear hcon HCT
          go_wp2
          go_quiet (fail)
          go_wp2
          go_quiet (fail)
          go_wp2_with (go_at_call 86; refine (times_w _ _ _ (by omega) (by omega) (by omega) (by omega)).mono ?_; rintro e w' ⟨rfl, rfl⟩)
          go_roundw
          case rel => exact ⟨k + 1, by go_num, by omega, hide (by rw [HTK.out, HCON.out]; exact row3 (Blk.drewN hrow.out _) (by rw [HSs.out] <;> omega) (by rw [HTt.out] <;> omega) (by rw [HQq.out] <;> omega)), hide ((((ho.out.drewN _).setCell _ _ rfl).setCell _ _ rfl).setCell _ _ rfl)⟩
          case measure => simp [intOf]; omega
    · have hl3 : ¬ ((k : Int) < (grs xs).length) := by omega
      have hfin := hrow.out
      rw [List.take_of_length_le (by omega)] at hfin
      have hr : IsL wr (.slice (some ⟨w.heap.size, 0, none⟩) xs.length xs.length) (wts xs) := IsLB.of_blk hfin (wts_len xs).symm (lim_FB (wts_lim HP.out) (by omega)) (by rw [wts_len]; omega)
      have HR := hide hr; clear hr hfin
      go_wp2
      go_ret
      exact ⟨_, rfl, HR.out, (fun j hj => by simp [Value.ownBlock] at hj; omega), HBR.out⟩
end Go.Proofs.Ytlpoenoijmifdaa
