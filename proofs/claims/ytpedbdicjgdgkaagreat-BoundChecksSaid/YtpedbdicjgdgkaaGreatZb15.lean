import Derived.Test.YtpedbdicjgdgkaaGreatZb14
import Derived.KernelRfl
import Derived.Test.YtpedbdicjgdgkaaGreatZb04
set_option linter.unusedVariables false
set_option linter.unusedSimpArgs false
/- The law package's examples hold in every world: by the evaluator, whose run the kernel makes. -/
namespace Go.Proofs.YtpedbdicjgdgkaaGreat
open Go Go.RowKit
namespace Ev
set_option maxRecDepth 1000000 in
theorem sane_yes : yesK Tryz.prog tab 3000 23 = true := by kernel_rfl
end Ev
theorem sane_w (w : World) : Calls Tryz.prog 23 #[] w fun e w' => e = .returned (.bool true) ∧ Below w.heap.size w w' := Ev.yes_ok Ev.tab_holds Ev.sane_yes w
#print axioms sane_w
end Go.Proofs.YtpedbdicjgdgkaaGreat

/- A system with one limit more, where all is well: the reference's side. -/
namespace Go.Proofs.YtpedbdicjgdgkaaGreat
open Go Go.RowKit

set_option maxRecDepth 100000 in
set_option maxHeartbeats 4000000 in
theorem rwith4_w (many : Int) (a : Option Addr) (n cap : Nat) (ls : List Lm) (l : Lm) (hr : ckS many ls = 0) (hq : ckL many l = 0) (hf : ls.length ≠ 400) (w : World) (h : IsS w (.slice a n cap) ls) (hnn : Nice (.slice a n cap)) :
    Calls Tryz.prog 12 #[.agg #[.int .i64 many, .slice a n cap], .agg #[.int .i64 l.a, .int .i64 l.b, .int .i64 l.m, .int .i64 l.y]] w fun e w' => ∃ v, e = .returned (.tuple #[.agg #[.int .i64 many, v], .int .i64 0]) ∧ (∃ B, w.heap.size ≤ B ∧ OwL B w' v (ls ++ [l])) ∧ Below w.heap.size w w' := by
  have hc := fun X : World => fun hX : Below w.heap.size w X => hide (rscheck_at hr X (h.below hX))
  have hl := fun X : World => hide (rclim_at hq X)
  have hmix : (Tryz.prog).follows .mixedOrders = true := by kernel_rfl
  have hn : n = ls.length := by obtain ⟨_, _, e, _⟩ := h; obtain ⟨_, e2, _⟩ := Value.slice.inj e; exact e2
  have hn' : ((n : Int) == 400) = false := by simp; omega
  have H4 := hide (ckS_400 hr)
  have HS := hide (fun X : World => fun hX : Below w.heap.size w X => (IsS.src (h.below hX) hnn))
  have hlt0 : ∀ k, (Value.slice a n cap).ownBlock = some k → ls ≠ [] → k < w.heap.size := by
    obtain ⟨_, _, e, _, _, _, h4⟩ := h
    obtain ⟨rfl, _, _⟩ := Value.slice.inj e
    intro k hk hne
    obtain ⟨b, off, rfl, hb, _⟩ := h4 hne
    have : b = k := by simpa [Value.ownBlock] using hk
    omega
  have HLT := hide hlt0
  clear hr h hq hf hn hlt0 hnn
  go_enter Tryz.func12, Tryz.ntmps12
  go_wp2_with (first | (go_at_call 16; refine (hc _ (by repeat (first | exact Below.refl _ _ | assumption | refine Below.alloc ?_ (by first | omega | (simp; omega) | simp) _ | refine Below.setCell ?_ (by first | omega | (simp; omega) | simp) _ | refine below_drewN ?_ _ | refine Below.drew ?_ | refine back ?_ (by assumption)))).out.mono ?_; rintro e w2 ⟨rfl, hb2⟩; have hW := (WithC.start w many (.slice a n cap) l).below (B := w.heap.size + 1 + 1 + 1) (by omega) (hb2.mono (by simp)); have hB2 : Below w.heap.size w w2 := (by repeat (first | exact Below.refl _ _ | assumption | refine Below.alloc ?_ (by first | omega | (simp; omega) | simp) _ | refine Below.setCell ?_ (by first | omega | (simp; omega) | simp) _ | refine below_drewN ?_ _ | refine Below.drew ?_ | refine back ?_ (by assumption))); have hz2 : w.heap.size + 1 + 1 + 1 ≤ w2.heap.size := (by have := hb2.size; simpa using this); obtain ⟨s0, s1, p0, p1, p2, p3, q0, q1, f0, f1⟩ := id hW; have HW2 := hide hW; have HB2 := hide hB2; clear hb2 hW hB2) | (go_at_call 14; refine (hl _).out.mono ?_; rintro e w3 ⟨rfl, hb3⟩; have hW := HW2.out.below (B := w.heap.size + 1 + 1 + 1) (by omega) (hb3.mono hz2); have hB3 : Below w.heap.size w w3 := HB2.out.trans (hb3.mono (by omega)); have hz3 : w.heap.size + 1 + 1 + 1 ≤ w3.heap.size := (by have := hb3.size; omega); clear s0 s1 p0 p1 p2 p3 q0 q1 f0 f1; obtain ⟨s0, s1, p0, p1, p2, p3, q0, q1, f0, f1⟩ := id hW; have HW3 := hide hW; have HB3 := hide hB3; clear hb3 hW hB3))
  have KQ := hide (show ∀ V, Below (w.heap.size + 1 + 1) w3 V → Below (w.heap.size + 1 + 1) w3 V ∧ V.cell? ⟨w.heap.size, 0, none⟩ = some (.int .i64 many) ∧ V.cell? ⟨w.heap.size, 1, none⟩ = some (.slice a n cap) ∧ V.cell? ⟨w.heap.size + 1, 0, none⟩ = some (.int .i64 l.a) ∧ V.cell? ⟨w.heap.size + 1, 1, none⟩ = some (.int .i64 l.b) ∧ V.cell? ⟨w.heap.size + 1, 2, none⟩ = some (.int .i64 l.m) ∧ V.cell? ⟨w.heap.size + 1, 3, none⟩ = some (.int .i64 l.y) from fun V hV => have c : ∀ b o u, b < w.heap.size + 1 + 1 → w3.cell? ⟨b, o, none⟩ = some u → V.cell? ⟨b, o, none⟩ = some u := fun b o u hlt h => (hV.cell (p := ⟨b, o, none⟩) hlt).trans h; ⟨hV, c _ _ _ (by omega) HW3.out.s0, c _ _ _ (by omega) HW3.out.s1, c _ _ _ (by omega) HW3.out.p0, c _ _ _ (by omega) HW3.out.p1, c _ _ _ (by omega) HW3.out.p2, c _ _ _ (by omega) HW3.out.p3⟩)
  clear s0 s1 p0 p1 p2 p3 q0 q1 f0 f1
  go_region_held3 (fun V => Below (w.heap.size + 1 + 1) w3 V ∧ V.cell? ⟨w.heap.size, 0, none⟩ = some (.int .i64 many) ∧ V.cell? ⟨w.heap.size, 1, none⟩ = some (.slice a n cap) ∧ V.cell? ⟨w.heap.size + 1, 0, none⟩ = some (.int .i64 l.a) ∧ V.cell? ⟨w.heap.size + 1, 1, none⟩ = some (.int .i64 l.b) ∧ V.cell? ⟨w.heap.size + 1, 2, none⟩ = some (.int .i64 l.m) ∧ V.cell? ⟨w.heap.size + 1, 3, none⟩ = some (.int .i64 l.y)) (first | assumption | (refine KQ.out _ ?_; (repeat (first | exact Below.refl _ _ | assumption | refine Below.alloc ?_ (by first | omega | (simp; omega) | simp) _ | refine Below.setCell ?_ (by first | exact Nat.le_refl _ | (show w.heap.size + 1 + 1 ≤ w.heap.size + 1 + 1; omega)) _ | refine Below.drew ?_ | refine Below.trans ?_ (Below.mono (B := w3.heap.size) (by assumption) (by omega))))))
    (first
      | (refine step_catL0 (o := ⟨some 29, _, _, _, _, _⟩) (by rfl) (.tmp 26) (.tmp 28) (by rfl) w3.heap.size _ (.slice a n cap) ls (by rfl) (by rfl) (by repeat (first | exact OwL.none2 (by first | rfl | simp) (by first | exact Nat.le_refl _ | omega | (simp; omega) | simp) | with_reducible refine OwL.drew ?_ | with_reducible refine OwL.alloc ?_ _)) (HS.out _ (HB3.out.trans (Below.mono (B := w3.heap.size) (by (repeat (first | exact Below.refl _ _ | assumption | refine Below.alloc ?_ (by first | exact Nat.le_refl _ | omega | (simp; omega) | simp) _ | refine Below.drew ?_ | refine Below.trans ?_ (by assumption)))) (by omega)))) (by have := H4.out; omega) (by first | exact Nat.le_refl _ | omega | (simp; omega) | simp) ?_; intro v2 w2 ho2 hb2 hg2; have hz2 := hb2.size; (try simp at hz2))
      | (refine step_catL (o := ⟨some 32, _, _, _, _, _⟩) (by rfl) (.tmp 29) (.tmp 31) (by rfl) w3.heap.size _ _ ls [l] (by rfl) (by rfl) (by repeat (first | exact ho2 | with_reducible refine OwL.drew ?_ | with_reducible refine OwL.alloc ?_ _)) (by first | exact one_srcL' rfl (by simp) | exact SrcL.grown' (one_srcL' rfl (by simp)) (by simp) (by simp) hg2 | exact SrcL.grown' (SrcL.drew (one_srcL' rfl (by simp))) (by simp) (by simp) hg2 | exact SrcL.grown' (SrcL.alloc (one_srcL' rfl (by simp)) (by simp)) (by simp; omega) (by simp) hg2 | exact SrcL.grown' (SrcL.drew (SrcL.alloc (one_srcL' rfl (by simp)) (by simp))) (by simp; omega) (by simp) hg2 | exact SrcL.drew (SrcL.grown' (one_srcL' rfl (by simp)) (by simp) (by simp) hg2)) (by have := H4.out; simp only [List.length_cons, List.length_nil]; omega) (by first | omega | (simp; omega)) ?_; intro v4 w4 ho4 hb4 hg4; obtain ⟨g4, c4, rfl, _, _⟩ := World.ownsRow.form ho4 (by simp); have hz4 := hb4.size; (try simp at hz4); have hWW := HW3.out.below (B := w3.heap.size) (by omega) (show Below w3.heap.size w3 w4 from (by (repeat (first | exact Below.refl _ _ | assumption | refine Below.alloc ?_ (by first | exact Nat.le_refl _ | omega | (simp; omega) | simp) _ | refine Below.drew ?_ | refine Below.trans ?_ (by assumption))))); obtain ⟨_, _, _, _, _, _, q0, q1, f0, f1⟩ := hWW))
  all_goals
    have hB4 : Below w.heap.size w w4 := HB3.out.trans (Below.mono (B := w3.heap.size) (show Below w3.heap.size w3 w4 from (by (repeat (first | exact Below.refl _ _ | assumption | refine Below.alloc ?_ (by first | exact Nat.le_refl _ | omega | (simp; omega) | simp) _ | refine Below.drew ?_ | refine Below.trans ?_ (by assumption))))) (by omega))
    have HB4 := hide hB4
    have hO4 : OwL w3.heap.size w4 (.slice (some ⟨g4, 0, none⟩) (ls.length + 1) c4) (ls ++ [l]) := by simpa using ho4
    have HO4 := hide hO4
    clear hB4 hO4 ho4 hb4 hg4 ho2 hb2 hg2
    go_wp2
    refine bodyPost_ret (v := .tuple #[.agg #[.int .i64 many, .slice (some ⟨g4, 0, none⟩) (ls.length + 1) c4], .int .i64 0]) (by simp [results, Tryz.results12, go_sem, q0, q1]) rfl ⟨_, rfl, ?_, ?_⟩
    · exact ⟨_, Nat.le_trans (Nat.le_add_right _ 3) hz3, ownsRow_set (ownsRow_set HO4.out (by show w.heap.size + 1 + 1 < _; omega)) (by show w.heap.size + 1 + 1 < _; omega)⟩
    · exact (HB4.out.setCell (by show w.heap.size ≤ w.heap.size + 1 + 1; omega) _).setCell (by show w.heap.size ≤ w.heap.size + 1 + 1; omega) _
end Go.Proofs.YtpedbdicjgdgkaaGreat

/- A system with one limit more, where all is well: the program's side. -/
namespace Go.Proofs.YtpedbdicjgdgkaaGreat
open Go Go.RowKit

set_option maxRecDepth 100000 in
set_option maxHeartbeats 4000000 in
theorem with4_w (many : Int) (a : Option Addr) (n cap : Nat) (ls : List Lm) (l : Lm) (hr : ckS many ls = 0) (hq : ckL many l = 0) (hf : ls.length ≠ 400) (w : World) (h : IsS w (.slice a n cap) ls) (hnn : Nice (.slice a n cap)) :
    Calls Tryz.prog 11 #[.agg #[.int .i64 many, .slice a n cap], .agg #[.int .i64 l.a, .int .i64 l.b, .int .i64 l.m, .int .i64 l.y]] w fun e w' => ∃ v, e = .returned (.tuple #[.agg #[.int .i64 many, v], .int .i64 0]) ∧ (∃ B, w.heap.size ≤ B ∧ OwL B w' v (ls ++ [l])) ∧ Below w.heap.size w w' := by
  have hc := fun X : World => fun hX : Below w.heap.size w X => hide (scheck_at hr X (h.below hX))
  have hl := fun X : World => hide (clim_at hq X)
  have hmix : (Tryz.prog).follows .mixedOrders = true := by kernel_rfl
  have hn : n = ls.length := by obtain ⟨_, _, e, _⟩ := h; obtain ⟨_, e2, _⟩ := Value.slice.inj e; exact e2
  have hn' : ((n : Int) == 400) = false := by simp; omega
  have H4 := hide (ckS_400 hr)
  have HS := hide (fun X : World => fun hX : Below w.heap.size w X => h.below hX)
  have HNN := hide hnn
  have hlt0 : ∀ k, (Value.slice a n cap).ownBlock = some k → ls ≠ [] → k < w.heap.size := by
    obtain ⟨_, _, e, _, _, _, h4⟩ := h
    obtain ⟨rfl, _, _⟩ := Value.slice.inj e
    intro k hk hne
    obtain ⟨b, off, rfl, hb, _⟩ := h4 hne
    have : b = k := by simpa [Value.ownBlock] using hk
    omega
  have HLT := hide hlt0
  clear hr h hq hf hn hlt0 hnn
  go_enter Tryz.func11, Tryz.ntmps11
  go_wp2_with (first | (go_at_call 15; refine (hc _ (by repeat (first | exact Below.refl _ _ | assumption | refine Below.alloc ?_ (by first | omega | (simp; omega) | simp) _ | refine Below.setCell ?_ (by first | omega | (simp; omega) | simp) _ | refine below_drewN ?_ _ | refine Below.drew ?_ | refine back ?_ (by assumption)))).out.mono ?_; rintro e w2 ⟨rfl, hb2⟩; have hW := (WithC.start w many (.slice a n cap) l).below (B := w.heap.size + 1 + 1 + 1) (by omega) (hb2.mono (by simp)); have hB2 : Below w.heap.size w w2 := (by repeat (first | exact Below.refl _ _ | assumption | refine Below.alloc ?_ (by first | omega | (simp; omega) | simp) _ | refine Below.setCell ?_ (by first | omega | (simp; omega) | simp) _ | refine below_drewN ?_ _ | refine Below.drew ?_ | refine back ?_ (by assumption))); have hz2 : w.heap.size + 1 + 1 + 1 ≤ w2.heap.size := (by have := hb2.size; simpa using this); obtain ⟨s0, s1, p0, p1, p2, p3, q0, q1, f0, f1⟩ := id hW; have HW2 := hide hW; have HB2 := hide hB2; clear hb2 hW hB2) | (go_at_call 13; refine (hl _).out.mono ?_; rintro e w3 ⟨rfl, hb3⟩; have hW := HW2.out.below (B := w.heap.size + 1 + 1 + 1) (by omega) (hb3.mono hz2); have hB3 : Below w.heap.size w w3 := HB2.out.trans (hb3.mono (by omega)); have hz3 : w.heap.size + 1 + 1 + 1 ≤ w3.heap.size := (by have := hb3.size; omega); clear s0 s1 p0 p1 p2 p3 q0 q1 f0 f1; obtain ⟨s0, s1, p0, p1, p2, p3, q0, q1, f0, f1⟩ := id hW; have HW3 := hide hW; have HB3 := hide hB3; clear hb3 hW hB3))
  have KQ := hide (show ∀ V, Below (w.heap.size + 1 + 1) w3 V → Below (w.heap.size + 1 + 1) w3 V ∧ V.cell? ⟨w.heap.size, 0, none⟩ = some (.int .i64 many) ∧ V.cell? ⟨w.heap.size, 1, none⟩ = some (.slice a n cap) ∧ V.cell? ⟨w.heap.size + 1, 0, none⟩ = some (.int .i64 l.a) ∧ V.cell? ⟨w.heap.size + 1, 1, none⟩ = some (.int .i64 l.b) ∧ V.cell? ⟨w.heap.size + 1, 2, none⟩ = some (.int .i64 l.m) ∧ V.cell? ⟨w.heap.size + 1, 3, none⟩ = some (.int .i64 l.y) from fun V hV => have c : ∀ b o u, b < w.heap.size + 1 + 1 → w3.cell? ⟨b, o, none⟩ = some u → V.cell? ⟨b, o, none⟩ = some u := fun b o u hlt h => (hV.cell (p := ⟨b, o, none⟩) hlt).trans h; ⟨hV, c _ _ _ (by omega) HW3.out.s0, c _ _ _ (by omega) HW3.out.s1, c _ _ _ (by omega) HW3.out.p0, c _ _ _ (by omega) HW3.out.p1, c _ _ _ (by omega) HW3.out.p2, c _ _ _ (by omega) HW3.out.p3⟩)
  clear s0 s1 p0 p1 p2 p3 q0 q1 f0 f1
  go_region_held3 (fun V => Below (w.heap.size + 1 + 1) w3 V ∧ V.cell? ⟨w.heap.size, 0, none⟩ = some (.int .i64 many) ∧ V.cell? ⟨w.heap.size, 1, none⟩ = some (.slice a n cap) ∧ V.cell? ⟨w.heap.size + 1, 0, none⟩ = some (.int .i64 l.a) ∧ V.cell? ⟨w.heap.size + 1, 1, none⟩ = some (.int .i64 l.b) ∧ V.cell? ⟨w.heap.size + 1, 2, none⟩ = some (.int .i64 l.m) ∧ V.cell? ⟨w.heap.size + 1, 3, none⟩ = some (.int .i64 l.y)) (first | assumption | (refine KQ.out _ ?_; (repeat (first | exact Below.refl _ _ | assumption | refine Below.alloc ?_ (by first | omega | (simp; omega) | simp) _ | refine Below.setCell ?_ (by first | exact Nat.le_refl _ | (show w.heap.size + 1 + 1 ≤ w.heap.size + 1 + 1; omega)) _ | refine Below.drew ?_ | refine Below.trans ?_ (Below.mono (B := w3.heap.size) (by assumption) (by omega))))))
    (first
      | (go_at_call 62; refine (cloneL_w _ ls _ (HS.out _ (HB3.out.trans (Below.mono (B := w3.heap.size) (by (repeat (first | exact Below.refl _ _ | assumption | refine Below.alloc ?_ (by first | exact Nat.le_refl _ | omega | (simp; omega) | simp) _ | refine Below.drew ?_ | refine Below.trans ?_ (by assumption) | refine Below.trans ?_ (Below.mono (by assumption) (by first | omega | (simp; omega) | simp))))) (by omega)))) HNN.out (by have := H4.out; omega)).mono ?_; rintro e w2 ⟨v2, rfl, ho2, hb2⟩; have hz2 := hb2.size; (try simp at hz2); have hb2' := hb2.mono (B' := w3.heap.size) (by first | exact Nat.le_refl _ | omega | (simp; omega) | simp); have hO2 : OwL w3.heap.size w2 v2 ls := ho2.mono (by first | exact Nat.le_refl _ | omega | (simp; omega) | simp); clear ho2)
      | (refine step_catL (o := ⟨some 33, _, _, _, _, _⟩) (by rfl) (.tmp 30) (.tmp 32) (by rfl) w3.heap.size v2 _ ls [l] (by rfl) (by rfl) (by repeat (first | exact hO2 | with_reducible refine OwL.drew ?_ | with_reducible refine OwL.alloc ?_ _)) (by first | exact one_srcL' rfl (by simp) | exact SrcL.below' (one_srcL' rfl (by simp)) (by simp) hb2 | exact SrcL.below' (SrcL.drew (one_srcL' rfl (by simp))) (by simp) hb2 | exact SrcL.drew (one_srcL' rfl (by simp))) (by have := H4.out; simp only [List.length_cons, List.length_nil]; omega) (by first | exact Nat.le_refl _ | omega | (simp; omega) | simp) ?_; intro v4 w4 ho4 hb4 hg4; obtain ⟨g4, c4, rfl, _, _⟩ := World.ownsRow.form ho4 (by simp); have hz4 := hb4.size; (try simp at hz4); have hWW := HW3.out.below (B := w3.heap.size) (by omega) (show Below w3.heap.size w3 w4 from (by (repeat (first | exact Below.refl _ _ | assumption | refine Below.alloc ?_ (by first | exact Nat.le_refl _ | omega | (simp; omega) | simp) _ | refine Below.drew ?_ | refine Below.trans ?_ (by assumption) | refine Below.trans ?_ (Below.mono (by assumption) (by first | omega | (simp; omega) | simp)))))); obtain ⟨s0, _, _, _, _, _, q0, q1, f0, f1⟩ := hWW))
  all_goals
    have hB4 : Below w.heap.size w w4 := HB3.out.trans (Below.mono (B := w3.heap.size) (show Below w3.heap.size w3 w4 from (by (repeat (first | exact Below.refl _ _ | assumption | refine Below.alloc ?_ (by first | exact Nat.le_refl _ | omega | (simp; omega) | simp) _ | refine Below.drew ?_ | refine Below.trans ?_ (by assumption) | refine Below.trans ?_ (Below.mono (by assumption) (by first | omega | (simp; omega) | simp)))))) (by omega))
    have HB4 := hide hB4
    have hO4 : OwL w3.heap.size w4 (.slice (some ⟨g4, 0, none⟩) (ls.length + 1) c4) (ls ++ [l]) := by simpa using ho4
    have HO4 := hide hO4
    clear hB4 hO4 ho4 hb4 hg4 hO2 hb2 hb2'
    go_wp2
    refine bodyPost_ret (v := .tuple #[.agg #[.int .i64 many, .slice (some ⟨g4, 0, none⟩) (ls.length + 1) c4], .int .i64 0]) (by simp [results, Tryz.results11, go_sem, q0, q1]) rfl ⟨_, rfl, ?_, ?_⟩
    · exact ⟨_, Nat.le_trans (Nat.le_add_right _ 3) hz3, ownsRow_set (ownsRow_set HO4.out (by show w.heap.size + 1 + 1 < _; omega)) (by show w.heap.size + 1 + 1 < _; omega)⟩
    · exact (HB4.out.setCell (by show w.heap.size ≤ w.heap.size + 1 + 1; omega) _).setCell (by show w.heap.size ≤ w.heap.size + 1 + 1; omega) _
end Go.Proofs.YtpedbdicjgdgkaaGreat

/- The law of bound's checks. -/
namespace Go.Proofs.YtpedbdicjgdgkaaGreat
open Go Go.RowKit

theorem nice_form {v : Value} (h : Nice v) : ∃ p n c, v = .slice p n c := by
  rcases h with rfl | ⟨_, _, _, _, rfl⟩ <;> exact ⟨_, _, _, rfl⟩
theorem ckL_two (many : Int) (l : Lm) : ckL many l = 0 ∨ ckL many l = 20 := by
  unfold ckL; split <;> simp
/-- What both of the Withs answer. -/
theorem with_both (many : Int) (a : Option Addr) (n cap : Nat) (ls : List Lm) (l : Lm) (hl : FL l) (w : World) (h : IsS w (.slice a n cap) ls) (hnn : Nice (.slice a n cap)) : ∃ (M E : Int) (ms : List Lm),
    (∀ X, Below w.heap.size w X → Calls Tryz.prog 11 #[.agg #[.int .i64 many, .slice a n cap], .agg #[.int .i64 l.a, .int .i64 l.b, .int .i64 l.m, .int .i64 l.y]] X fun e w' => ∃ v, e = .returned (.tuple #[.agg #[.int .i64 M, v], .int .i64 E]) ∧ IsS w' v ms ∧ Nice v ∧ Below X.heap.size X w') ∧
    (∀ X, Below w.heap.size w X → Calls Tryz.prog 12 #[.agg #[.int .i64 many, .slice a n cap], .agg #[.int .i64 l.a, .int .i64 l.b, .int .i64 l.m, .int .i64 l.y]] X fun e w' => ∃ v, e = .returned (.tuple #[.agg #[.int .i64 M, v], .int .i64 E]) ∧ IsS w' v ms ∧ Nice v ∧ Below X.heap.size X w') := by
  have hnil : ∀ X : World, IsS X (.slice none 0 0) [] := fun X => OwL.isS (OwL.nil 0 X) (by simp)
  have hf : ∀ x ∈ ls ++ [l], FL x := by
    obtain ⟨_, _, _, _, _, h3, _⟩ := h
    intro x hx
    rcases List.mem_append.1 hx with hx | hx
    · exact h3 x hx
    · rw [List.mem_singleton.1 hx]; exact hl
  by_cases h0 : ckS many ls = 0
  · rcases ckL_two many l with hq | hq
    · by_cases h4 : ls.length = 400
      · refine ⟨0, 2, [], fun X hX => ?_, fun X hX => ?_⟩
        · refine (with3_w many a n cap ls l h0 hq h4 X (h.below hX)).mono ?_
          rintro e w' ⟨rfl, hb⟩
          exact ⟨_, rfl, hnil _, .inl rfl, hb⟩
        · refine (rwith3_w many a n cap ls l h0 hq h4 X (h.below hX)).mono ?_
          rintro e w' ⟨rfl, hb⟩
          exact ⟨_, rfl, hnil _, .inl rfl, hb⟩
      · refine ⟨many, 0, ls ++ [l], fun X hX => ?_, fun X hX => ?_⟩
        · refine (with4_w many a n cap ls l h0 hq h4 X (h.below hX) hnn).mono ?_
          rintro e w' ⟨v, rfl, ⟨B, _, ho⟩, hb⟩
          exact ⟨_, rfl, OwL.isS ho hf, own_nice ho, hb⟩
        · refine (rwith4_w many a n cap ls l h0 hq h4 X (h.below hX) hnn).mono ?_
          rintro e w' ⟨v, rfl, ⟨B, _, ho⟩, hb⟩
          exact ⟨_, rfl, OwL.isS ho hf, own_nice ho, hb⟩
    · refine ⟨0, 20, [], fun X hX => ?_, fun X hX => ?_⟩
      · refine (with2_w many a n cap ls l h0 hq X (h.below hX)).mono ?_
        rintro e w' ⟨rfl, hb⟩
        exact ⟨_, rfl, hnil _, .inl rfl, hb⟩
      · refine (rwith2_w many a n cap ls l h0 hq X (h.below hX)).mono ?_
        rintro e w' ⟨rfl, hb⟩
        exact ⟨_, rfl, hnil _, .inl rfl, hb⟩
  · refine ⟨0, ckS many ls, [], fun X hX => ?_, fun X hX => ?_⟩
    · refine (with1_w many a n cap ls l _ rfl h0 X (h.below hX)).mono ?_
      rintro e w' ⟨rfl, hb⟩
      exact ⟨_, rfl, hnil _, .inl rfl, hb⟩
    · refine (rwith1_w many a n cap ls l _ rfl h0 X (h.below hX)).mono ?_
      rintro e w' ⟨rfl, hb⟩
      exact ⟨_, rfl, hnil _, .inl rfl, hb⟩

set_option maxRecDepth 100000 in
set_option maxHeartbeats 4000000 in
theorem law_w (many : Int) (a : Option Addr) (n cap : Nat) (ls : List Lm) (l : Lm) (hl : FL l) (ab : Option Addr) (nb cb : Nat) (ys : List Int) (w : World) (h : IsS w (.slice a n cap) ls) (hnn : Nice (.slice a n cap)) (hy : IsL w (.slice ab nb cb) ys) (hyn : Nice (.slice ab nb cb)) (hbig : ls.length * 32 ≤ 140737488355328) (hby : ys.length * 8 ≤ 140737488355328) :
    Calls Tryz.prog 3 #[.agg #[.int .i64 many, .slice a n cap], .agg #[.int .i64 l.a, .int .i64 l.b, .int .i64 l.m, .int .i64 l.y], .slice ab nb cb] w fun e w' => e = .returned (.bool true) ∧ Below w.heap.size w w' := by
  have hmix : (Tryz.prog).follows .mixedOrders = true := by kernel_rfl
  obtain ⟨M, E, ms, hw1, hw2⟩ := with_both many a n cap ls l hl w h hnn
  have HW1 := hide hw1; have HW2 := hide hw2
  clear hw1 hw2
  have KC := hide (show ∀ V, Below (w.heap.size + 1 + 1) ((w.alloc (.cells #[.int .i64 many, .slice a n cap] 24)).alloc (.cells #[.int .i64 l.a, .int .i64 l.b, .int .i64 l.m, .int .i64 l.y] 26)) V → V.cell? ⟨w.heap.size, 0, none⟩ = some (.int .i64 many) ∧ V.cell? ⟨w.heap.size, 1, none⟩ = some (.slice a n cap) ∧ V.cell? ⟨w.heap.size + 1, 0, none⟩ = some (.int .i64 l.a) ∧ V.cell? ⟨w.heap.size + 1, 1, none⟩ = some (.int .i64 l.b) ∧ V.cell? ⟨w.heap.size + 1, 2, none⟩ = some (.int .i64 l.m) ∧ V.cell? ⟨w.heap.size + 1, 3, none⟩ = some (.int .i64 l.y) from fun V hV => by
    have c : ∀ b o u, b < w.heap.size + 1 + 1 → ((w.alloc (.cells #[.int .i64 many, .slice a n cap] 24)).alloc (.cells #[.int .i64 l.a, .int .i64 l.b, .int .i64 l.m, .int .i64 l.y] 26)).cell? ⟨b, o, none⟩ = some u → V.cell? ⟨b, o, none⟩ = some u := fun b o u hlt h => (hV.cell (p := ⟨b, o, none⟩) hlt).trans h
    exact ⟨c _ _ _ (by omega) ((cell_old (by simp)).trans (cell_new rfl)), c _ _ _ (by omega) ((cell_old (by simp)).trans (cell_new rfl)), c _ _ _ (by omega) (cell_new (by simp)), c _ _ _ (by omega) (cell_new (by simp)), c _ _ _ (by omega) (cell_new (by simp)), c _ _ _ (by omega) (cell_new (by simp))⟩)
  have HBS : Hid (Below w.heap.size w ((w.alloc (.cells #[.int .i64 many, .slice a n cap] 24)).alloc (.cells #[.int .i64 l.a, .int .i64 l.b, .int .i64 l.m, .int .i64 l.y] 26))) := hide (((Below.refl _ w).alloc (Nat.le_refl _) _).alloc (by simp) _)
  go_enter Tryz.func3, Tryz.ntmps3
  go_wp2_with (first
    | (go_at_call 11; go_loud (refine (HW1.out _ HBS.out).mono ?_; rintro e w1 ⟨v1, rfl, hs1, hn1, hb1⟩; obtain ⟨p1, m1, c1, rfl⟩ := nice_form hn1; have hz1 := hb1.size; (try simp at hz1); have hb1' := hb1.mono (B' := w.heap.size + 1 + 1) (by simp); obtain ⟨s0, s1, l0, l1, l2, l3⟩ := KC.out _ hb1'; have hlt0 : w.heap.size < w1.heap.size := (by omega); have hlt1 : w.heap.size + 1 < w1.heap.size := (by omega); have HB1 := hide hb1'; have HS1 := hide hs1; clear hb1 hs1))
    | (go_at_call 12; go_loud (refine (HW2.out _ (HBS.out.trans ((HB1.out.alloc (by omega) _).mono (by omega)))).mono ?_; rintro e w2 ⟨v2, rfl, hs2, hn2, hb2⟩; obtain ⟨p2, m2, c2, rfl⟩ := nice_form hn2; have hz2 := hb2.size; (try simp at hz2); have hb2' := hb2.mono (B' := w1.heap.size + 1) (by simp))))
  clear s0 s1 l0 l1 l2 l3
  have hw12 : w1.heap.size < w2.heap.size := by omega
  have hb3 : Below (w.heap.size + 1 + 1) ((w.alloc (.cells #[.int .i64 many, .slice a n cap] 24)).alloc (.cells #[.int .i64 l.a, .int .i64 l.b, .int .i64 l.m, .int .i64 l.y] 26)) w2 := (HB1.out.alloc (by omega) _).trans (hb2'.mono (by omega))
  obtain ⟨w8, hw8⟩ : ∃ W, w2.alloc (.cells #[.int .i64 M, .slice p2 m2 c2] 24) = W := ⟨_, rfl⟩
  have hz8 : w8.heap.size = w2.heap.size + 1 := by rw [← hw8]; simp
  have hb8 : Below (w.heap.size + 1 + 1) ((w.alloc (.cells #[.int .i64 many, .slice a n cap] 24)).alloc (.cells #[.int .i64 l.a, .int .i64 l.b, .int .i64 l.m, .int .i64 l.y] 26)) w8 := by rw [← hw8]; exact hb3.alloc (by omega) _
  have hbw8 : Below w.heap.size w w8 := HBS.out.trans (hb8.mono (by omega))
  have hs28 : IsS w8 (.slice p2 m2 c2) ms := by rw [← hw8]; exact hs2.below ((Below.refl _ w2).alloc (Nat.le_refl _) _)
  have hs18 : IsS w8 (.slice p1 m1 c1) ms := by
    have h1 : IsS (w1.alloc (.cells #[.int .i64 M, .slice p1 m1 c1] 24)) (.slice p1 m1 c1) ms := HS1.out.below ((Below.refl _ w1).alloc (Nat.le_refl _) _)
    have h2 := h1.below (w' := w2) (by have := hb2'; simpa using this)
    rw [← hw8]; exact h2.below ((Below.refl _ w2).alloc (Nat.le_refl _) _)
  obtain ⟨s0, s1, l0, l1, l2, l3⟩ := KC.out _ hb8
  have a0 : w8.cell? ⟨w1.heap.size, 0, none⟩ = some (.int .i64 M) := by rw [← hw8]; exact (cell_old (by show w1.heap.size < _; omega)).trans ((hb2'.cell (p := ⟨w1.heap.size, 0, none⟩) (by show w1.heap.size < _; omega)).trans (cell_new rfl))
  have a1 : w8.cell? ⟨w1.heap.size, 1, none⟩ = some (.slice p1 m1 c1) := by rw [← hw8]; exact (cell_old (by show w1.heap.size < _; omega)).trans ((hb2'.cell (p := ⟨w1.heap.size, 1, none⟩) (by show w1.heap.size < _; omega)).trans (cell_new rfl))
  have b0 : w8.cell? ⟨w2.heap.size, 0, none⟩ = some (.int .i64 M) := by rw [← hw8]; exact cell_new rfl
  have b1 : w8.cell? ⟨w2.heap.size, 1, none⟩ = some (.slice p2 m2 c2) := by rw [← hw8]; exact cell_new rfl
  rw [hw8]
  have KQ := hide (show ∀ V, Below w8.heap.size w8 V → Below w8.heap.size w8 V ∧ V.cell? ⟨w.heap.size, 0, none⟩ = some (.int .i64 many) ∧ V.cell? ⟨w.heap.size, 1, none⟩ = some (.slice a n cap) ∧ V.cell? ⟨w.heap.size + 1, 0, none⟩ = some (.int .i64 l.a) ∧ V.cell? ⟨w.heap.size + 1, 1, none⟩ = some (.int .i64 l.b) ∧ V.cell? ⟨w.heap.size + 1, 2, none⟩ = some (.int .i64 l.m) ∧ V.cell? ⟨w.heap.size + 1, 3, none⟩ = some (.int .i64 l.y) ∧ V.cell? ⟨w1.heap.size, 0, none⟩ = some (.int .i64 M) ∧ V.cell? ⟨w1.heap.size, 1, none⟩ = some (.slice p1 m1 c1) ∧ V.cell? ⟨w2.heap.size, 0, none⟩ = some (.int .i64 M) ∧ V.cell? ⟨w2.heap.size, 1, none⟩ = some (.slice p2 m2 c2) from fun V hV => by
    have c : ∀ b o u, b < w8.heap.size → w8.cell? ⟨b, o, none⟩ = some u → V.cell? ⟨b, o, none⟩ = some u := fun b o u hlt h => (hV.cell (p := ⟨b, o, none⟩) hlt).trans h
    exact ⟨hV, c _ _ _ (by omega) s0, c _ _ _ (by omega) s1, c _ _ _ (by omega) l0, c _ _ _ (by omega) l1, c _ _ _ (by omega) l2, c _ _ _ (by omega) l3, c _ _ _ (by omega) a0, c _ _ _ (by omega) a1, c _ _ _ (by omega) b0, c _ _ _ (by omega) b1⟩)
  have HW8 := hide hbw8
  have KS1 := fun (V : World) => fun (hV : Below w8.heap.size w8 V) => hide (sameSys_w M _ _ ms V (hs18.below hV) (hs28.below hV))
  have KS2 := fun (V : World) => fun (hV : Below w8.heap.size w8 V) => hide (scheck_w many a n cap ls V (h.below (hbw8.trans (hV.mono hbw8.size))))
  have KS3 := fun (V : World) => fun (hV : Below w8.heap.size w8 V) => hide (rscheck_w many a n cap ls V (h.below (hbw8.trans (hV.mono hbw8.size))))
  have HH := hide h; have HY := hide hy; have HYN := hide hyn; have HBIG := hide hbig; have HBY := hide hby
  clear hw8 hz8 hb8 hbw8 hs28 hs18 hb3 h hy hyn hbig hby s0 s1 l0 l1 l2 l3 a0 a1 b0 b1 hb2 hb2' hs2 hn2 hn1 HB1 HS1 hlt0 hlt1 hz1 hz2 hw12 hl hnn
  go_region_held3 (fun V => Below w8.heap.size w8 V ∧ V.cell? ⟨w.heap.size, 0, none⟩ = some (.int .i64 many) ∧ V.cell? ⟨w.heap.size, 1, none⟩ = some (.slice a n cap) ∧ V.cell? ⟨w.heap.size + 1, 0, none⟩ = some (.int .i64 l.a) ∧ V.cell? ⟨w.heap.size + 1, 1, none⟩ = some (.int .i64 l.b) ∧ V.cell? ⟨w.heap.size + 1, 2, none⟩ = some (.int .i64 l.m) ∧ V.cell? ⟨w.heap.size + 1, 3, none⟩ = some (.int .i64 l.y) ∧ V.cell? ⟨w1.heap.size, 0, none⟩ = some (.int .i64 M) ∧ V.cell? ⟨w1.heap.size, 1, none⟩ = some (.slice p1 m1 c1) ∧ V.cell? ⟨w2.heap.size, 0, none⟩ = some (.int .i64 M) ∧ V.cell? ⟨w2.heap.size, 1, none⟩ = some (.slice p2 m2 c2)) (first | assumption | (refine KQ.out _ ?_; exact (by (repeat (first | exact Below.refl _ _ | assumption | refine Below.drew ?_ | refine Below.trans ?_ (by assumption))))))
    (first
      | (go_at_call 13; go_loud (refine (clim_w many l _).mono ?_; rintro e x1 ⟨rfl, hx1⟩; have hx1' : Below w8.heap.size w8 x1 := Below.trans (show Below w8.heap.size w8 _ from (by (repeat (first | exact Below.refl _ _ | assumption | refine Below.drew ?_ | refine Below.trans ?_ (by assumption))))) (hx1.mono (Below.size (B := w8.heap.size) (w := w8) (by (repeat (first | exact Below.refl _ _ | assumption | refine Below.drew ?_ | refine Below.trans ?_ (by assumption)))))); clear hx1))
      | (go_at_call 14; go_loud (refine (rclim_w many l _).mono ?_; rintro e x2 ⟨rfl, hx2⟩; have hx2' : Below w8.heap.size w8 x2 := Below.trans (show Below w8.heap.size w8 _ from (by (repeat (first | exact Below.refl _ _ | assumption | refine Below.drew ?_ | refine Below.trans ?_ (by assumption))))) (hx2.mono (Below.size (B := w8.heap.size) (w := w8) (by (repeat (first | exact Below.refl _ _ | assumption | refine Below.drew ?_ | refine Below.trans ?_ (by assumption)))))); clear hx2))
      | (go_at_call 15; go_loud (refine ((KS2 _ (by (repeat (first | exact Below.refl _ _ | assumption | refine Below.drew ?_ | refine Below.trans ?_ (by assumption))))).out).mono ?_; rintro e x3 ⟨rfl, hx3⟩; have hx3' : Below w8.heap.size w8 x3 := Below.trans (show Below w8.heap.size w8 _ from (by (repeat (first | exact Below.refl _ _ | assumption | refine Below.drew ?_ | refine Below.trans ?_ (by assumption))))) (hx3.mono (Below.size (B := w8.heap.size) (w := w8) (by (repeat (first | exact Below.refl _ _ | assumption | refine Below.drew ?_ | refine Below.trans ?_ (by assumption)))))); clear hx3))
      | (go_at_call 16; go_loud (refine ((KS3 _ (by (repeat (first | exact Below.refl _ _ | assumption | refine Below.drew ?_ | refine Below.trans ?_ (by assumption))))).out).mono ?_; rintro e x4 ⟨rfl, hx4⟩; have hx4' : Below w8.heap.size w8 x4 := Below.trans (show Below w8.heap.size w8 _ from (by (repeat (first | exact Below.refl _ _ | assumption | refine Below.drew ?_ | refine Below.trans ?_ (by assumption))))) (hx4.mono (Below.size (B := w8.heap.size) (w := w8) (by (repeat (first | exact Below.refl _ _ | assumption | refine Below.drew ?_ | refine Below.trans ?_ (by assumption)))))); clear hx4))
      | (go_at_call 17; go_loud (refine ((KS1 _ (by (repeat (first | exact Below.refl _ _ | assumption | refine Below.drew ?_ | refine Below.trans ?_ (by assumption))))).out).mono ?_; rintro e x5 ⟨rfl, hx5⟩; have hx5' : Below w8.heap.size w8 x5 := Below.trans (show Below w8.heap.size w8 _ from (by (repeat (first | exact Below.refl _ _ | assumption | refine Below.drew ?_ | refine Below.trans ?_ (by assumption))))) (hx5.mono (Below.size (B := w8.heap.size) (w := w8) (by (repeat (first | exact Below.refl _ _ | assumption | refine Below.drew ?_ | refine Below.trans ?_ (by assumption)))))); clear hx5)))
  go_wp2
  have WS1 := fun (V : World) => fun (hV : Below w8.heap.size w8 V) => hide (sources_w many a n cap ls V (HH.out.below (HW8.out.trans (hV.mono HW8.out.size))) HBIG.out)
  have WS2 := fun (V : World) => fun (hV : Below w8.heap.size w8 V) => hide (rsources_w many a n cap ls V (HH.out.below (HW8.out.trans (hV.mono HW8.out.size))) HBIG.out)
  have WT1 := fun (V : World) => fun (hV : Below w8.heap.size w8 V) => hide (without_w many a n cap ls ab nb cb ys V (HH.out.below (HW8.out.trans (hV.mono HW8.out.size))) (HY.out.below (HW8.out.trans (hV.mono HW8.out.size))) HYN.out HBIG.out HBY.out)
  have WT2 := fun (V : World) => fun (hV : Below w8.heap.size w8 V) => hide (rwithout_w many a n cap ls ab nb cb ys V (HH.out.below (HW8.out.trans (hV.mono HW8.out.size))) (HY.out.below (HW8.out.trans (hV.mono HW8.out.size))) HBIG.out)
  have HX5 : Below w8.heap.size w8 x5 := by assumption
  clear hb1' hx1' hx2' hx3' hx4' HW1 HW2 KC HBS KS1 KS2 KS3
  go_region_held3 (fun V => Below w8.heap.size w8 V ∧ V.cell? ⟨w.heap.size, 0, none⟩ = some (.int .i64 many) ∧ V.cell? ⟨w.heap.size, 1, none⟩ = some (.slice a n cap) ∧ V.cell? ⟨w.heap.size + 1, 0, none⟩ = some (.int .i64 l.a) ∧ V.cell? ⟨w.heap.size + 1, 1, none⟩ = some (.int .i64 l.b) ∧ V.cell? ⟨w.heap.size + 1, 2, none⟩ = some (.int .i64 l.m) ∧ V.cell? ⟨w.heap.size + 1, 3, none⟩ = some (.int .i64 l.y) ∧ V.cell? ⟨w1.heap.size, 0, none⟩ = some (.int .i64 M) ∧ V.cell? ⟨w1.heap.size, 1, none⟩ = some (.slice p1 m1 c1) ∧ V.cell? ⟨w2.heap.size, 0, none⟩ = some (.int .i64 M) ∧ V.cell? ⟨w2.heap.size, 1, none⟩ = some (.slice p2 m2 c2)) (first | assumption | (refine KQ.out _ ?_; exact (by (repeat (first | exact Below.refl _ _ | assumption | refine Below.drew ?_ | refine below_drawn ?_ _ | refine Below.trans ?_ (by assumption))))))
    (first
      | (go_at_call 19; go_loud (refine ((WS1 _ (by (repeat (first | exact Below.refl _ _ | assumption | refine Below.drew ?_ | refine below_drawn ?_ _ | refine Below.trans ?_ (by assumption))))).out).mono ?_; rintro e y1 ⟨u1, rfl, hu1, hq1, hy1⟩; have hy1' : Below w8.heap.size w8 y1 := Below.trans (show Below w8.heap.size w8 _ from (by (repeat (first | exact Below.refl _ _ | assumption | refine Below.drew ?_ | refine below_drawn ?_ _ | refine Below.trans ?_ (by assumption))))) (hy1.mono (Below.size (B := w8.heap.size) (w := w8) (by (repeat (first | exact Below.refl _ _ | assumption | refine Below.drew ?_ | refine below_drawn ?_ _ | refine Below.trans ?_ (by assumption)))))); obtain ⟨up1, um1, uc1, rfl⟩ := nice_form hu1))
      | (go_at_call 20; go_loud (refine ((WS2 _ (by (repeat (first | exact Below.refl _ _ | assumption | refine Below.drew ?_ | refine below_drawn ?_ _ | refine Below.trans ?_ (by assumption))))).out).mono ?_; rintro e y2 ⟨u2, rfl, hu2, hq2, hy2⟩; have hy2' : Below w8.heap.size w8 y2 := Below.trans (show Below w8.heap.size w8 _ from (by (repeat (first | exact Below.refl _ _ | assumption | refine Below.drew ?_ | refine below_drawn ?_ _ | refine Below.trans ?_ (by assumption))))) (hy2.mono (Below.size (B := w8.heap.size) (w := w8) (by (repeat (first | exact Below.refl _ _ | assumption | refine Below.drew ?_ | refine below_drawn ?_ _ | refine Below.trans ?_ (by assumption)))))); obtain ⟨up2, um2, uc2, rfl⟩ := nice_form hu2))
      | (go_at_call 18; go_loud (refine (same2_w _ _ (srcs ls) _ (hq1.below (by (repeat (first | exact Below.refl _ _ | assumption | refine Below.drew ?_ | refine below_drawn ?_ _ | refine Below.trans ?_ (by assumption))))) (hq2.below (by (repeat (first | exact Below.refl _ _ | assumption | refine Below.drew ?_ | refine below_drawn ?_ _ | refine Below.trans ?_ (by assumption)))))).mono ?_; rintro e y3 ⟨rfl, hd3⟩; have hy3' : Below w8.heap.size w8 y3 := (by obtain ⟨q3, e3⟩ := hd3; rw [e3]; exact below_drawn (by (repeat (first | exact Below.refl _ _ | assumption | refine Below.drew ?_ | refine below_drawn ?_ _ | refine Below.trans ?_ (by assumption)))) _); clear hq1 hq2 hy1 hy2))
      | (go_at_call 21; go_loud (refine ((WT1 _ (by (repeat (first | exact Below.refl _ _ | assumption | refine Below.drew ?_ | refine below_drawn ?_ _ | refine Below.trans ?_ (by assumption))))).out).mono ?_; rintro e y4 ⟨u4, rfl, hu4, hq4, hy4⟩; have hy4' : Below w8.heap.size w8 y4 := Below.trans (show Below w8.heap.size w8 _ from (by (repeat (first | exact Below.refl _ _ | assumption | refine Below.drew ?_ | refine below_drawn ?_ _ | refine Below.trans ?_ (by assumption))))) (hy4.mono (Below.size (B := w8.heap.size) (w := w8) (by (repeat (first | exact Below.refl _ _ | assumption | refine Below.drew ?_ | refine below_drawn ?_ _ | refine Below.trans ?_ (by assumption)))))); obtain ⟨up4, um4, uc4, rfl⟩ := nice_form hu4))
      | (go_at_call 22; go_loud (refine ((WT2 _ (by (repeat (first | exact Below.refl _ _ | assumption | refine Below.drew ?_ | refine below_drawn ?_ _ | refine Below.trans ?_ (by assumption))))).out).mono ?_; rintro e y5 ⟨u5, rfl, hu5, hq5, hy5⟩; have hy5' : Below w8.heap.size w8 y5 := Below.trans (show Below w8.heap.size w8 _ from (by (repeat (first | exact Below.refl _ _ | assumption | refine Below.drew ?_ | refine below_drawn ?_ _ | refine Below.trans ?_ (by assumption))))) (hy5.mono (Below.size (B := w8.heap.size) (w := w8) (by (repeat (first | exact Below.refl _ _ | assumption | refine Below.drew ?_ | refine below_drawn ?_ _ | refine Below.trans ?_ (by assumption)))))); obtain ⟨up5, um5, uc5, rfl⟩ := nice_form hu5))
      | (go_at_call 17; go_loud (refine (sameSys_w many _ _ (wo ys ls) _ (hq4.below (by (repeat (first | exact Below.refl _ _ | assumption | refine Below.drew ?_ | refine below_drawn ?_ _ | refine Below.trans ?_ (by assumption))))) (hq5.below (by (repeat (first | exact Below.refl _ _ | assumption | refine Below.drew ?_ | refine below_drawn ?_ _ | refine Below.trans ?_ (by assumption)))))).mono ?_; rintro e y6 ⟨rfl, hy6⟩; have hy6' : Below w8.heap.size w8 y6 := Below.trans (show Below w8.heap.size w8 _ from (by (repeat (first | exact Below.refl _ _ | assumption | refine Below.drew ?_ | refine below_drawn ?_ _ | refine Below.trans ?_ (by assumption))))) (hy6.mono (Below.size (B := w8.heap.size) (w := w8) (by (repeat (first | exact Below.refl _ _ | assumption | refine Below.drew ?_ | refine below_drawn ?_ _ | refine Below.trans ?_ (by assumption)))))); clear hq4 hq5 hy4 hy5))
      | (go_at_call 23; go_loud (refine (sane_w _).mono ?_; rintro e y7 ⟨rfl, hy7⟩; have hy7' : Below w8.heap.size w8 y7 := Below.trans (show Below w8.heap.size w8 _ from (by (repeat (first | exact Below.refl _ _ | assumption | refine Below.drew ?_ | refine below_drawn ?_ _ | refine Below.trans ?_ (by assumption))))) (hy7.mono (Below.size (B := w8.heap.size) (w := w8) (by (repeat (first | exact Below.refl _ _ | assumption | refine Below.drew ?_ | refine below_drawn ?_ _ | refine Below.trans ?_ (by assumption)))))))))
  all_goals
    have HX7 := hide hy7'
    go_wp2
    go_ret
    exact ⟨rfl, HW8.out.trans (HX7.out.mono HW8.out.size)⟩
end Go.Proofs.YtpedbdicjgdgkaaGreat
