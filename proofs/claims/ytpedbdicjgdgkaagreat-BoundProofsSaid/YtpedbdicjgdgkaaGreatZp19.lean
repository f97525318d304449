import Derived.Test.YtpedbdicjgdgkaaGreatZp18
import Derived.KernelRfl
import Derived.Test.YtpedbdicjgdgkaaGreatZp07
import Derived.Test.YtpedbdicjgdgkaaGreatZp08
set_option linter.unusedVariables false
set_option linter.unusedSimpArgs false
/- The law package's examples hold in every world: by the evaluator, whose run the kernel makes. -/
namespace Go.Proofs.YtpedbdicjgdgkaaGreat
open Go Go.RowKit
namespace Ev
set_option maxRecDepth 1000000 in
theorem sane_yes : yesK Tryz.prog tab 3000 23 = true := by kernel_rfl
end Ev
theorem sane_w (w : World) : Calls Tryz.prog 23 #[] w fun e w' => e = .returned (.bool true) ∧ Below w.heap.size w w' := Ev.yes_ok Ev.tab_holds Ev.sane_yes w
#print axioms sane_w
end Go.Proofs.YtpedbdicjgdgkaaGreat

/- The law of bound's proofs. -/
namespace Go.Proofs.YtpedbdicjgdgkaaGreat
open Go Go.RowKit

theorem nice_fm {v : Value} (h : Nice v) : ∃ p n c, v = .slice p n c := by
  rcases h with rfl | ⟨_, _, _, _, rfl⟩ <;> exact ⟨_, _, _, rfl⟩
theorem rsV_len (many : Int) (ls : List Lm) (us : List Us) : (rsV many ls us).length ≤ us.length := by
  unfold rsV
  split
  · split
    · have := srcs_len (lims ls us)
      have e : (lims ls us).length = us.length := by simp [lims]
      omega
    · simp
  · simp
set_option maxRecDepth 100000 in
set_option maxHeartbeats 8000000 in
theorem lawp_w (many : Int) (a : Option Addr) (n cap : Nat) (ls : List Lm) (aw : Option Addr) (nw cw : Nat) (ws : List Int) (B : Int) (au : Option Addr) (nu cu : Nat) (us : List Us) (ay : Option Addr) (ny cy : Nat) (ys : List Int) (w : World)
    (h : IsS w (.slice a n cap) ls) (hW : IsL w (.slice aw nw cw) ws) (hWN : Nice (.slice aw nw cw)) (hU : IsU w (.slice au nu cu) us) (hub : us.length * 16 ≤ 140737488355328) (hY : IsL w (.slice ay ny cy) ys) (hYN : Nice (.slice ay ny cy)) (hYB : ys.length * 8 ≤ 140737488355328) :
    Calls Tryz.prog 6 #[.agg #[.int .i64 many, .slice a n cap], .slice aw nw cw, .agg #[.int .i64 B, .slice au nu cu, .slice ay ny cy]] w fun e w' => e = .returned (.bool true) ∧ Below w.heap.size w w' := by
  have hmix : (Tryz.prog).follows .mixedOrders = true := by kernel_rfl
  have HR1 := fun (X : World) => fun (hX : Below w.heap.size w X) => hide (rests_w many a n cap ls B au nu cu us X (h.below hX) (hU.below hX) hub)
  have HR2 := fun (X : World) => fun (hX : Below w.heap.size w X) => hide (rrests_w many a n cap ls B au nu cu us X (h.below hX) (hU.below hX) hub)
  have HC1 := fun (X : World) => fun (hX : Below w.heap.size w X) => hide (carry_w many a n cap ls aw nw cw ws B au nu cu us ay ny cy ys X (h.below hX) (hW.below hX) hWN (hU.below hX) (hY.below hX) hYN hYB)
  have HC2 := fun (X : World) => fun (hX : Below w.heap.size w X) => hide (rcarry_w many a n cap ls aw nw cw ws B au nu cu us ay ny cy ys X (h.below hX) (hW.below hX) (hU.below hX) (hY.below hX))
  have HP1 := fun (X : World) => fun (hX : Below w.heap.size w X) => hide (checkProof_w many a n cap ls aw nw cw ws B au nu cu us X (h.below hX) (hW.below hX) hWN (hU.below hX))
  have HP2 := fun (X : World) => fun (hX : Below w.heap.size w X) => hide (rcheckProof_w many a n cap ls aw nw cw ws B au nu cu us X (h.below hX) (hW.below hX) (hU.below hX))
  obtain ⟨E1, hE1⟩ : ∃ E, rsE many ls us = E := ⟨_, rfl⟩
  obtain ⟨V1, hV1⟩ : ∃ E, rsV many ls us = E := ⟨_, rfl⟩
  obtain ⟨E2, hE2⟩ : ∃ E, crE many ls ws B us ys = E := ⟨_, rfl⟩
  obtain ⟨B2, hB2⟩ : ∃ E, crB many ls ws B us ys = E := ⟨_, rfl⟩
  obtain ⟨V2, hV2⟩ : ∃ E, crV many ls ws B us ys = E := ⟨_, rfl⟩
  obtain ⟨E3, hE3⟩ : ∃ E, ckP many ls ws B us = E := ⟨_, rfl⟩
  rw [hE1, hV1] at HR1 HR2
  rw [hE2, hB2, hV2] at HC1 HC2
  rw [hE3] at HP1 HP2
  clear hE1 hV1 hE2 hB2 hV2 hE3 h hW hU hY hWN hYN hYB hub
  have KC := hide (show ∀ V, Below (w.heap.size + 1 + 1) ((w.alloc (.cells #[.int .i64 many, .slice a n cap] 24)).alloc (.cells #[.int .i64 B, .slice au nu cu, .slice ay ny cy] 60)) V → V.cell? ⟨w.heap.size, 0, none⟩ = some (.int .i64 many) ∧ V.cell? ⟨w.heap.size, 1, none⟩ = some (.slice a n cap) ∧ V.cell? ⟨w.heap.size + 1, 0, none⟩ = some (.int .i64 B) ∧ V.cell? ⟨w.heap.size + 1, 1, none⟩ = some (.slice au nu cu) ∧ V.cell? ⟨w.heap.size + 1, 2, none⟩ = some (.slice ay ny cy) from fun V hV => by
    have c : ∀ b o u, b < w.heap.size + 1 + 1 → ((w.alloc (.cells #[.int .i64 many, .slice a n cap] 24)).alloc (.cells #[.int .i64 B, .slice au nu cu, .slice ay ny cy] 60)).cell? ⟨b, o, none⟩ = some u → V.cell? ⟨b, o, none⟩ = some u := fun b o u hlt h => (hV.cell (p := ⟨b, o, none⟩) hlt).trans h
    exact ⟨c _ _ _ (by omega) ((cell_old (by simp)).trans (cell_new rfl)), c _ _ _ (by omega) ((cell_old (by simp)).trans (cell_new rfl)), c _ _ _ (by omega) (cell_new (by simp)), c _ _ _ (by omega) (cell_new (by simp)), c _ _ _ (by omega) (cell_new (by simp))⟩)
  have HBS : Hid (Below w.heap.size w ((w.alloc (.cells #[.int .i64 many, .slice a n cap] 24)).alloc (.cells #[.int .i64 B, .slice au nu cu, .slice ay ny cy] 60))) := hide (((Below.refl _ w).alloc (Nat.le_refl _) _).alloc (by simp) _)
  go_enter Tryz.func6, Tryz.ntmps6
  go_wp2_with (first
    | (go_at_call 43; go_loud (refine (HR1 _ HBS.out).out.mono ?_; rintro e w1 ⟨v1, rfl, hn1, hl1, hb1⟩; obtain ⟨p1, m1, c1, rfl⟩ := nice_fm hn1; have hz1 := hb1.size; (try simp at hz1); have hb1' := hb1.mono (B' := w.heap.size + 1 + 1) (by simp); obtain ⟨s0, s1, l0, l1, l2⟩ := KC.out _ hb1'; have hlt0 : w.heap.size < w1.heap.size := (by omega); have hlt1 : w.heap.size + 1 < w1.heap.size := (by omega); have HB1 := hide hb1'; have HL1 := hide hl1; clear hb1 hl1 hb1'))
    | (go_at_call 44; go_loud (refine (HR2 _ (HBS.out.trans (HB1.out.mono (by omega)))).out.mono ?_; rintro e w2 ⟨v2, rfl, hn2, hl2, hb2⟩; obtain ⟨p2, m2, c2, rfl⟩ := nice_fm hn2; have hz2 := hb2.size; clear s0 s1 l0 l1 l2; have hb2' := HB1.out.trans (hb2.mono (by omega)); obtain ⟨s0, s1, l0, l1, l2⟩ := KC.out _ hb2'; have hlt2 : w.heap.size < w2.heap.size := (by omega); have hlt3 : w.heap.size + 1 < w2.heap.size := (by omega); have HB2 := hide hb2'; have HB12 := hide hb2; have HL2 := hide hl2; clear hb2 hl2 hb2'))
    | (go_at_call 45; go_loud (refine (HC1 _ (HBS.out.trans (HB2.out.mono (by omega)))).out.mono ?_; rintro e w3 ⟨v3, rfl, hn3, hl3, hb3⟩; obtain ⟨p3, m3, c3, rfl⟩ := nice_fm hn3; have hz3 := hb3.size; clear s0 s1 l0 l1 l2; have hb3' := HB2.out.trans (hb3.mono (by omega)); obtain ⟨s0, s1, l0, l1, l2⟩ := KC.out _ hb3'; have hlt4 : w.heap.size < w3.heap.size := (by omega); have hlt5 : w.heap.size + 1 < w3.heap.size := (by omega); have HB3 := hide hb3'; have HB23 := hide hb3; have HL3 := hide hl3; clear hb3 hl3 hb3'))
    | (go_at_call 46; go_loud (refine (HC2 _ (HBS.out.trans ((HB3.out.alloc (by omega) _).mono (by omega)))).out.mono ?_; rintro e w4 ⟨v4, rfl, hn4, hl4, hb4⟩; obtain ⟨p4, m4, c4, rfl⟩ := nice_fm hn4; have hz4 := hb4.size; (try simp at hz4); have HB34 := hide hb4; have HL4 := hide hl4; clear hb4 hl4)))
  clear s0 s1 l0 l1 l2
  obtain ⟨w8, hw8⟩ : ∃ W, w4.alloc (.cells #[.int .i64 B2, .slice p4 m4 c4] 54) = W := ⟨_, rfl⟩
  have hz8 : w8.heap.size = w4.heap.size + 1 := by rw [← hw8]; simp
  have h34 : Below (w3.heap.size + 1) (w3.alloc (.cells #[.int .i64 B2, .slice p3 m3 c3] 54)) w4 := by have := HB34.out; simpa using this
  have h3a4 : Below w3.heap.size w3 w4 := ((Below.refl _ w3).alloc (Nat.le_refl _) _).trans (h34.mono (by omega))
  have h48 : Below w4.heap.size w4 w8 := by rw [← hw8]; exact (Below.refl _ w4).alloc (Nat.le_refl _) _
  have h38 : Below w3.heap.size w3 w8 := h3a4.trans (h48.mono (by omega))
  have h28 : Below w2.heap.size w2 w8 := HB23.out.trans (h38.mono hz3)
  have h18 : Below w1.heap.size w1 w8 := HB12.out.trans (h28.mono hz2)
  have hb8 : Below (w.heap.size + 1 + 1) ((w.alloc (.cells #[.int .i64 many, .slice a n cap] 24)).alloc (.cells #[.int .i64 B, .slice au nu cu, .slice ay ny cy] 60)) w8 := HB3.out.trans (h38.mono (by omega))
  have hbw8 : Below w.heap.size w w8 := HBS.out.trans (hb8.mono (by omega))
  have i1 : IsL w8 (.slice p1 m1 c1) V1 := HL1.out.below h18
  have i2 : IsL w8 (.slice p2 m2 c2) V1 := HL2.out.below h28
  have i3 : IsU w8 (.slice p3 m3 c3) V2 := HL3.out.below h38
  have i4 : IsU w8 (.slice p4 m4 c4) V2 := HL4.out.below h48
  obtain ⟨s0, s1, l0, l1, l2⟩ := KC.out _ hb8
  have a0 : w8.cell? ⟨w3.heap.size, 0, none⟩ = some (.int .i64 B2) := (h48.cell (p := ⟨w3.heap.size, 0, none⟩) (by show w3.heap.size < _; omega)).trans ((h34.cell (p := ⟨w3.heap.size, 0, none⟩) (by show w3.heap.size < _; omega)).trans (cell_new rfl))
  have a1 : w8.cell? ⟨w3.heap.size, 1, none⟩ = some (.slice p3 m3 c3) := (h48.cell (p := ⟨w3.heap.size, 1, none⟩) (by show w3.heap.size < _; omega)).trans ((h34.cell (p := ⟨w3.heap.size, 1, none⟩) (by show w3.heap.size < _; omega)).trans (cell_new rfl))
  have b0 : w8.cell? ⟨w4.heap.size, 0, none⟩ = some (.int .i64 B2) := by rw [← hw8]; exact cell_new rfl
  have b1 : w8.cell? ⟨w4.heap.size, 1, none⟩ = some (.slice p4 m4 c4) := by rw [← hw8]; exact cell_new rfl
  rw [hw8]
  have KQ := hide (show ∀ V, Below w8.heap.size w8 V → Below w8.heap.size w8 V ∧ V.cell? ⟨w.heap.size, 0, none⟩ = some (.int .i64 many) ∧ V.cell? ⟨w.heap.size, 1, none⟩ = some (.slice a n cap) ∧ V.cell? ⟨w.heap.size + 1, 0, none⟩ = some (.int .i64 B) ∧ V.cell? ⟨w.heap.size + 1, 1, none⟩ = some (.slice au nu cu) ∧ V.cell? ⟨w.heap.size + 1, 2, none⟩ = some (.slice ay ny cy) ∧ V.cell? ⟨w3.heap.size, 0, none⟩ = some (.int .i64 B2) ∧ V.cell? ⟨w3.heap.size, 1, none⟩ = some (.slice p3 m3 c3) ∧ V.cell? ⟨w4.heap.size, 0, none⟩ = some (.int .i64 B2) ∧ V.cell? ⟨w4.heap.size, 1, none⟩ = some (.slice p4 m4 c4) from fun V hV => by
    have c : ∀ b o u, b < w8.heap.size → w8.cell? ⟨b, o, none⟩ = some u → V.cell? ⟨b, o, none⟩ = some u := fun b o u hlt h => (hV.cell (p := ⟨b, o, none⟩) hlt).trans h
    exact ⟨hV, c _ _ _ (by omega) s0, c _ _ _ (by omega) s1, c _ _ _ (by omega) l0, c _ _ _ (by omega) l1, c _ _ _ (by omega) l2, c _ _ _ (by omega) a0, c _ _ _ (by omega) a1, c _ _ _ (by omega) b0, c _ _ _ (by omega) b1⟩)
  have HW8 := hide hbw8
  have KS1 := fun (V : World) => fun (hV : Below w8.heap.size w8 V) => hide (same2_w _ _ V1 V (i1.below hV) (i2.below hV))
  have KS2 := fun (V : World) => fun (hV : Below w8.heap.size w8 V) => hide (sameProof_w B2 _ _ V2 V (i3.below hV) (i4.below hV))
  have KP1 := fun (V : World) => fun (hV : Below w8.heap.size w8 V) => HP1 V (HW8.out.trans (hV.mono HW8.out.size))
  have KP2 := fun (V : World) => fun (hV : Below w8.heap.size w8 V) => HP2 V (HW8.out.trans (hV.mono HW8.out.size))
  clear hw8 hz8 h34 h3a4 h48 h38 h28 h18 hb8 hbw8 i1 i2 i3 i4 s0 s1 l0 l1 l2 a0 a1 b0 b1 HB1 HB2 HB3 HB12 HB23 HB34 HL1 HL2 HL3 HL4 hn1 hn2 hn3 hn4 hz1 hz2 hz3 hz4 hlt0 hlt1 hlt2 hlt3 hlt4 hlt5 HR1 HR2 HC1 HC2 HP1 HP2 KC HBS
  go_region_held3 (fun V => Below w8.heap.size w8 V ∧ V.cell? ⟨w.heap.size, 0, none⟩ = some (.int .i64 many) ∧ V.cell? ⟨w.heap.size, 1, none⟩ = some (.slice a n cap) ∧ V.cell? ⟨w.heap.size + 1, 0, none⟩ = some (.int .i64 B) ∧ V.cell? ⟨w.heap.size + 1, 1, none⟩ = some (.slice au nu cu) ∧ V.cell? ⟨w.heap.size + 1, 2, none⟩ = some (.slice ay ny cy) ∧ V.cell? ⟨w3.heap.size, 0, none⟩ = some (.int .i64 B2) ∧ V.cell? ⟨w3.heap.size, 1, none⟩ = some (.slice p3 m3 c3) ∧ V.cell? ⟨w4.heap.size, 0, none⟩ = some (.int .i64 B2) ∧ V.cell? ⟨w4.heap.size, 1, none⟩ = some (.slice p4 m4 c4)) (first | assumption | (refine KQ.out _ ?_; exact (by (repeat (first | exact Below.refl _ _ | assumption | refine Below.drew ?_ | refine below_drawn ?_ _ | refine Below.trans ?_ (by assumption))))))
    (first
      | (go_at_call 47; go_loud (refine ((KP1 _ (by (repeat (first | exact Below.refl _ _ | assumption | refine Below.drew ?_ | refine below_drawn ?_ _ | refine Below.trans ?_ (by assumption))))).out).mono ?_; rintro e x1 ⟨rfl, hx1⟩; have hx1' : Below w8.heap.size w8 x1 := Below.trans (show Below w8.heap.size w8 _ from (by (repeat (first | exact Below.refl _ _ | assumption | refine Below.drew ?_ | refine below_drawn ?_ _ | refine Below.trans ?_ (by assumption))))) (hx1.mono (Below.size (B := w8.heap.size) (w := w8) (by (repeat (first | exact Below.refl _ _ | assumption | refine Below.drew ?_ | refine below_drawn ?_ _ | refine Below.trans ?_ (by assumption)))))); clear hx1))
      | (go_at_call 42; go_loud (refine ((KP2 _ (by (repeat (first | exact Below.refl _ _ | assumption | refine Below.drew ?_ | refine below_drawn ?_ _ | refine Below.trans ?_ (by assumption))))).out).mono ?_; rintro e x2 ⟨rfl, hx2⟩; have hx2' : Below w8.heap.size w8 x2 := Below.trans (show Below w8.heap.size w8 _ from (by (repeat (first | exact Below.refl _ _ | assumption | refine Below.drew ?_ | refine below_drawn ?_ _ | refine Below.trans ?_ (by assumption))))) (hx2.mono (Below.size (B := w8.heap.size) (w := w8) (by (repeat (first | exact Below.refl _ _ | assumption | refine Below.drew ?_ | refine below_drawn ?_ _ | refine Below.trans ?_ (by assumption)))))); clear hx2))
      | (go_at_call 18; go_loud (refine ((KS1 _ (by (repeat (first | exact Below.refl _ _ | assumption | refine Below.drew ?_ | refine below_drawn ?_ _ | refine Below.trans ?_ (by assumption))))).out).mono ?_; rintro e x3 ⟨rfl, hd3⟩; have hx3' : Below w8.heap.size w8 x3 := (by obtain ⟨q3, e3⟩ := hd3; rw [e3]; exact below_drawn (by (repeat (first | exact Below.refl _ _ | assumption | refine Below.drew ?_ | refine below_drawn ?_ _ | refine Below.trans ?_ (by assumption)))) _); clear hd3))
      | (go_at_call 48; go_loud (refine ((KS2 _ (by (repeat (first | exact Below.refl _ _ | assumption | refine Below.drew ?_ | refine below_drawn ?_ _ | refine Below.trans ?_ (by assumption))))).out).mono ?_; rintro e x4 ⟨rfl, hx4⟩; have hx4' : Below w8.heap.size w8 x4 := Below.trans (show Below w8.heap.size w8 _ from (by (repeat (first | exact Below.refl _ _ | assumption | refine Below.drew ?_ | refine below_drawn ?_ _ | refine Below.trans ?_ (by assumption))))) (hx4.mono (Below.size (B := w8.heap.size) (w := w8) (by (repeat (first | exact Below.refl _ _ | assumption | refine Below.drew ?_ | refine below_drawn ?_ _ | refine Below.trans ?_ (by assumption)))))); clear hx4))
      | (go_at_call 23; go_loud (refine (sane_w _).mono ?_; rintro e x7 ⟨rfl, hx7⟩; have hx7' : Below w8.heap.size w8 x7 := Below.trans (show Below w8.heap.size w8 _ from (by (repeat (first | exact Below.refl _ _ | assumption | refine Below.drew ?_ | refine below_drawn ?_ _ | refine Below.trans ?_ (by assumption))))) (hx7.mono (Below.size (B := w8.heap.size) (w := w8) (by (repeat (first | exact Below.refl _ _ | assumption | refine Below.drew ?_ | refine below_drawn ?_ _ | refine Below.trans ?_ (by assumption)))))); clear hx7)))
  all_goals
    have HX7 := hide hx7'
    go_wp2
    go_ret
    exact ⟨rfl, HW8.out.trans (HX7.out.mono HW8.out.size)⟩
end Go.Proofs.YtpedbdicjgdgkaaGreat
