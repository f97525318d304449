import Derived.Test.YtpedbdicjgdgkaaGreatZp04
import Derived.Deep.RegionHeld3
import Derived.Outline
set_option linter.unusedVariables false
set_option linter.unusedSimpArgs false
/- A copy of a list of limits. -/
namespace Go.Proofs.YtpedbdicjgdgkaaGreat
open Go Go.RowKit

set_option maxRecDepth 100000 in
set_option maxHeartbeats 1000000 in
theorem cloneL_w (v : Value) (ls : List Lm) (w : World) (h : IsS w v ls) (hn : Nice v) (hbig : ls.length * 32 ≤ 140737488355328) :
    Calls Tryz.prog 62 #[v] w fun e w' => ∃ v', e = .returned v' ∧ OwL w.heap.size w' v' ls ∧ Below w.heap.size w w' := by
  rcases hn with rfl | ⟨b, off, n, cap, rfl⟩
  · have : ls = [] := by
      obtain ⟨_, _, e, _⟩ := h
      obtain ⟨_, e2, _⟩ := Value.slice.inj e
      exact List.length_eq_zero_iff.1 e2.symm
    subst this
    clear h hbig
    have hnil : ∀ W : World, (binOp .eql 22 (.slice none 0 0) (.slice none 0 0)).run Tryz.prog W = .ok (.bool true) W := fun W => Lib.run_eql_slice_nil W _ _ _ _ _ _ _ Tryz.underlying22
    go_enter Tryz.func62, Tryz.ntmps62
    go_wp2
    go_ret
    exact ⟨_, rfl, OwL.nil _ _, Below.refl _ _⟩
  · have hsA : (w.alloc (.cells #[] 26)).heap.size = w.heap.size + 1 := World.size_alloc _ _
    have HSA := hide hsA
    have hsrc := IsS.src (h.below ((Below.refl w.heap.size w).alloc (Nat.le_refl _) (.cells #[] 26))) (.inr ⟨b, off, n, cap, rfl⟩)
    have HSR := hide hsrc
    have HB := hide hbig
    clear hsA hsrc h hbig
    have hnil : ∀ W : World, (binOp .eql 22 (.slice (some ⟨b, off, none⟩) n cap) (.slice none 0 0)).run Tryz.prog W = .ok (.bool false) W := fun W => Lib.run_eql_slice_nil W _ _ _ _ _ _ _ Tryz.underlying22
    go_enter Tryz.func62, Tryz.ntmps62
    go_wp2_with (at_builtin; refine catL_w rfl (.tmp 5) (.tmp 6) rfl w.heap.size (w.alloc (.cells #[] 26)) _ (.slice (some ⟨b, off, none⟩) n cap) [] ls (OwL.none' w (Nat.le_refl _)) rfl rfl HSR.out (by have := HB.out; simp only [List.length_nil]; omega) (by rw [HSA.out]; omega) ?_; intro v' w7 ho7 hg7 _ _; have hB7 := ((Below.refl w.heap.size w).alloc (Nat.le_refl _) (.cells #[] 26)).trans (grown_bel (OwL.none' w (Nat.le_refl _)) (by rw [HSA.out]; omega) hg7))
    rw [List.nil_append] at ho7
    go_ret
    exact ⟨_, rfl, ho7, hB7⟩
end Go.Proofs.YtpedbdicjgdgkaaGreat

/- A system with one limit more: both sides, where it is refused. -/
namespace Go.Proofs.YtpedbdicjgdgkaaGreat
open Go Go.RowKit

theorem ckS_400 {many : Int} {ls : List Lm} (h : ckS many ls = 0) : ls.length ≤ 400 := by
  unfold ckS at h
  split at h
  · split at h
    · cases h
    · omega
  · cases h
theorem scheck_at {many : Int} {a : Option Addr} {n cap : Nat} {ls : List Lm} {r : Int} (hr : ckS many ls = r) (w : World) (h : IsS w (.slice a n cap) ls) :
    Calls Tryz.prog 15 #[.agg #[.int .i64 many, .slice a n cap]] w fun e w' => e = .returned (.int .i64 r) ∧ Below w.heap.size w w' := by subst hr; exact scheck_w many a n cap ls w h
theorem rscheck_at {many : Int} {a : Option Addr} {n cap : Nat} {ls : List Lm} {r : Int} (hr : ckS many ls = r) (w : World) (h : IsS w (.slice a n cap) ls) :
    Calls Tryz.prog 16 #[.agg #[.int .i64 many, .slice a n cap]] w fun e w' => e = .returned (.int .i64 r) ∧ Below w.heap.size w w' := by subst hr; exact rscheck_w many a n cap ls w h

/-- The three boxes that With makes first: the system, the limit, the result. -/
structure WithC (N : Nat) (many : Int) (v : Value) (l : Lm) (w : World) : Prop where
  s0 : w.cell? ⟨N, 0, none⟩ = some (.int .i64 many)
  s1 : w.cell? ⟨N, 1, none⟩ = some v
  p0 : w.cell? ⟨N + 1, 0, none⟩ = some (.int .i64 l.a)
  p1 : w.cell? ⟨N + 1, 1, none⟩ = some (.int .i64 l.b)
  p2 : w.cell? ⟨N + 1, 2, none⟩ = some (.int .i64 l.m)
  p3 : w.cell? ⟨N + 1, 3, none⟩ = some (.int .i64 l.y)
  q0 : w.cell? ⟨N + 1 + 1, 0, none⟩ = some (.int .i64 0)
  q1 : w.cell? ⟨N + 1 + 1, 1, none⟩ = some (.slice none 0 0)
  f0 : w.frozen? ⟨N + 1 + 1, 0, none⟩ = false
  f1 : w.frozen? ⟨N + 1 + 1, 1, none⟩ = false
theorem WithC.below {N B : Nat} {many : Int} {v : Value} {l : Lm} {w w' : World} (h : WithC N many v l w) (hN : N + 1 + 1 < B) (hb : Below B w w') : WithC N many v l w' := by
  have c : ∀ b o u, b < B → w.cell? ⟨b, o, none⟩ = some u → w'.cell? ⟨b, o, none⟩ = some u := fun b o u hlt h => (hb.cell (p := ⟨b, o, none⟩) hlt).trans h
  obtain ⟨h1, h2, h3, h4, h5, h6, h7, h8, h9, h10⟩ := h
  exact ⟨c _ _ _ (by omega) h1, c _ _ _ (by omega) h2, c _ _ _ (by omega) h3, c _ _ _ (by omega) h4, c _ _ _ (by omega) h5, c _ _ _ (by omega) h6, c _ _ _ (by omega) h7, c _ _ _ (by omega) h8,
    (hb.frozen (p := ⟨_, _, none⟩) hN).trans h9, (hb.frozen (p := ⟨_, _, none⟩) hN).trans h10⟩
theorem WithC.start (w : World) (many : Int) (v : Value) (l : Lm) : WithC w.heap.size many v l (((w.alloc (.cells #[.int .i64 many, v] 24)).alloc (.cells #[.int .i64 l.a, .int .i64 l.b, .int .i64 l.m, .int .i64 l.y] 26)).alloc (.cells #[.int .i64 0, .slice none 0 0] 24)) := by
  refine ⟨?_, ?_, ?_, ?_, ?_, ?_, ?_, ?_, ?_, ?_⟩
  · exact (cell_old (by simp; omega)).trans ((cell_old (by simp)).trans (cell_new rfl))
  · exact (cell_old (by simp; omega)).trans ((cell_old (by simp)).trans (cell_new rfl))
  · exact (cell_old (by simp)).trans (cell_new (by simp))
  · exact (cell_old (by simp)).trans (cell_new (by simp))
  · exact (cell_old (by simp)).trans (cell_new (by simp))
  · exact (cell_old (by simp)).trans (cell_new (by simp))
  · exact cell_new (by simp)
  · exact cell_new (by simp)
  · exact frozen_new (by simp)
  · exact frozen_new (by simp)

set_option maxRecDepth 100000 in
set_option maxHeartbeats 4000000 in
theorem with1_w (many : Int) (a : Option Addr) (n cap : Nat) (ls : List Lm) (l : Lm) (r : Int) (hr : ckS many ls = r) (h0 : r ≠ 0) (w : World) (h : IsS w (.slice a n cap) ls) :
    Calls Tryz.prog 11 #[.agg #[.int .i64 many, .slice a n cap], .agg #[.int .i64 l.a, .int .i64 l.b, .int .i64 l.m, .int .i64 l.y]] w fun e w' => e = .returned (.tuple #[.agg #[.int .i64 0, .slice none 0 0], .int .i64 r]) ∧ Below w.heap.size w w' := by
  have hc := fun X : World => fun hX : Below w.heap.size w X => hide (scheck_at hr X (h.below hX))
  have h0' : (r != 0) = true := by simp [h0]
  clear hr h h0
  go_enter Tryz.func11, Tryz.ntmps11
  go_wp2_with (go_at_call 15; refine (hc _ (by repeat (first | exact Below.refl _ _ | assumption | refine Below.alloc ?_ (by first | omega | (simp; omega) | simp) _ | refine Below.setCell ?_ (by first | omega | (simp; omega) | simp) _ | refine below_drewN ?_ _ | refine Below.drew ?_ | refine back ?_ (by assumption)))).out.mono ?_; rintro e w2 ⟨rfl, hb2⟩; have hW := (WithC.start w many (.slice a n cap) l).below (B := w.heap.size + 1 + 1 + 1) (by omega) (hb2.mono (by simp)); have hB2 : Below w.heap.size w w2 := (by repeat (first | exact Below.refl _ _ | assumption | refine Below.alloc ?_ (by first | omega | (simp; omega) | simp) _ | refine Below.setCell ?_ (by first | omega | (simp; omega) | simp) _ | refine below_drewN ?_ _ | refine Below.drew ?_ | refine back ?_ (by assumption))); have hz2 : w.heap.size + 1 + 1 + 1 ≤ w2.heap.size := (by have := hb2.size; simpa using this); obtain ⟨s0, s1, p0, p1, p2, p3, q0, q1, f0, f1⟩ := id hW; have HW2 := hide hW; have HB2 := hide hB2; clear hb2 hW hB2)
  refine bodyPost_ret (v := .tuple #[.agg #[.int .i64 0, .slice none 0 0], .int .i64 r]) (by simp [results, Tryz.results11, go_sem, q0, q1]) rfl ⟨rfl, ?_⟩
  exact (by repeat (first | exact HB2.out | refine Below.setCell ?_ (by show w.heap.size ≤ w.heap.size + 1 + 1; omega) _))
set_option maxRecDepth 100000 in
set_option maxHeartbeats 4000000 in
theorem with2_w (many : Int) (a : Option Addr) (n cap : Nat) (ls : List Lm) (l : Lm) (hr : ckS many ls = 0) (hq : ckL many l = 20) (w : World) (h : IsS w (.slice a n cap) ls) :
    Calls Tryz.prog 11 #[.agg #[.int .i64 many, .slice a n cap], .agg #[.int .i64 l.a, .int .i64 l.b, .int .i64 l.m, .int .i64 l.y]] w fun e w' => e = .returned (.tuple #[.agg #[.int .i64 0, .slice none 0 0], .int .i64 20]) ∧ Below w.heap.size w w' := by
  have hc := fun X : World => fun hX : Below w.heap.size w X => hide (scheck_at hr X (h.below hX))
  have hl := fun X : World => hide (clim_at hq X)
  clear hr h hq
  go_enter Tryz.func11, Tryz.ntmps11
  go_wp2_with (first | (go_at_call 15; refine (hc _ (by repeat (first | exact Below.refl _ _ | assumption | refine Below.alloc ?_ (by first | omega | (simp; omega) | simp) _ | refine Below.setCell ?_ (by first | omega | (simp; omega) | simp) _ | refine below_drewN ?_ _ | refine Below.drew ?_ | refine back ?_ (by assumption)))).out.mono ?_; rintro e w2 ⟨rfl, hb2⟩; have hW := (WithC.start w many (.slice a n cap) l).below (B := w.heap.size + 1 + 1 + 1) (by omega) (hb2.mono (by simp)); have hB2 : Below w.heap.size w w2 := (by repeat (first | exact Below.refl _ _ | assumption | refine Below.alloc ?_ (by first | omega | (simp; omega) | simp) _ | refine Below.setCell ?_ (by first | omega | (simp; omega) | simp) _ | refine below_drewN ?_ _ | refine Below.drew ?_ | refine back ?_ (by assumption))); have hz2 : w.heap.size + 1 + 1 + 1 ≤ w2.heap.size := (by have := hb2.size; simpa using this); obtain ⟨s0, s1, p0, p1, p2, p3, q0, q1, f0, f1⟩ := id hW; have HW2 := hide hW; have HB2 := hide hB2; clear hb2 hW hB2) | (go_at_call 13; refine (hl _).out.mono ?_; rintro e w3 ⟨rfl, hb3⟩; have hW := HW2.out.below (B := w.heap.size + 1 + 1 + 1) (by omega) (hb3.mono hz2); have hB3 : Below w.heap.size w w3 := HB2.out.trans (hb3.mono (by omega)); have hz3 : w.heap.size + 1 + 1 + 1 ≤ w3.heap.size := (by have := hb3.size; omega); clear s0 s1 p0 p1 p2 p3 q0 q1 f0 f1; obtain ⟨s0, s1, p0, p1, p2, p3, q0, q1, f0, f1⟩ := id hW; have HW3 := hide hW; have HB3 := hide hB3; clear hb3 hW hB3))
  refine bodyPost_ret (v := .tuple #[.agg #[.int .i64 0, .slice none 0 0], .int .i64 20]) (by simp [results, Tryz.results11, go_sem, q0, q1]) rfl ⟨rfl, ?_⟩
  exact (by repeat (first | exact HB3.out | refine Below.setCell ?_ (by show w.heap.size ≤ w.heap.size + 1 + 1; omega) _))
set_option maxRecDepth 100000 in
set_option maxHeartbeats 4000000 in
theorem with3_w (many : Int) (a : Option Addr) (n cap : Nat) (ls : List Lm) (l : Lm) (hr : ckS many ls = 0) (hq : ckL many l = 0) (hf : ls.length = 400) (w : World) (h : IsS w (.slice a n cap) ls) :
    Calls Tryz.prog 11 #[.agg #[.int .i64 many, .slice a n cap], .agg #[.int .i64 l.a, .int .i64 l.b, .int .i64 l.m, .int .i64 l.y]] w fun e w' => e = .returned (.tuple #[.agg #[.int .i64 0, .slice none 0 0], .int .i64 2]) ∧ Below w.heap.size w w' := by
  have hc := fun X : World => fun hX : Below w.heap.size w X => hide (scheck_at hr X (h.below hX))
  have hl := fun X : World => hide (clim_at hq X)
  have hn : n = 400 := by obtain ⟨_, _, e, _⟩ := h; obtain ⟨_, e2, _⟩ := Value.slice.inj e; omega
  have hn' : ((n : Int) == 400) = true := by rw [hn]; rfl
  clear hr h hq hf hn
  go_enter Tryz.func11, Tryz.ntmps11
  go_wp2_with (first | (go_at_call 15; refine (hc _ (by repeat (first | exact Below.refl _ _ | assumption | refine Below.alloc ?_ (by first | omega | (simp; omega) | simp) _ | refine Below.setCell ?_ (by first | omega | (simp; omega) | simp) _ | refine below_drewN ?_ _ | refine Below.drew ?_ | refine back ?_ (by assumption)))).out.mono ?_; rintro e w2 ⟨rfl, hb2⟩; have hW := (WithC.start w many (.slice a n cap) l).below (B := w.heap.size + 1 + 1 + 1) (by omega) (hb2.mono (by simp)); have hB2 : Below w.heap.size w w2 := (by repeat (first | exact Below.refl _ _ | assumption | refine Below.alloc ?_ (by first | omega | (simp; omega) | simp) _ | refine Below.setCell ?_ (by first | omega | (simp; omega) | simp) _ | refine below_drewN ?_ _ | refine Below.drew ?_ | refine back ?_ (by assumption))); have hz2 : w.heap.size + 1 + 1 + 1 ≤ w2.heap.size := (by have := hb2.size; simpa using this); obtain ⟨s0, s1, p0, p1, p2, p3, q0, q1, f0, f1⟩ := id hW; have HW2 := hide hW; have HB2 := hide hB2; clear hb2 hW hB2) | (go_at_call 13; refine (hl _).out.mono ?_; rintro e w3 ⟨rfl, hb3⟩; have hW := HW2.out.below (B := w.heap.size + 1 + 1 + 1) (by omega) (hb3.mono hz2); have hB3 : Below w.heap.size w w3 := HB2.out.trans (hb3.mono (by omega)); have hz3 : w.heap.size + 1 + 1 + 1 ≤ w3.heap.size := (by have := hb3.size; omega); clear s0 s1 p0 p1 p2 p3 q0 q1 f0 f1; obtain ⟨s0, s1, p0, p1, p2, p3, q0, q1, f0, f1⟩ := id hW; have HW3 := hide hW; have HB3 := hide hB3; clear hb3 hW hB3))
  refine bodyPost_ret (v := .tuple #[.agg #[.int .i64 0, .slice none 0 0], .int .i64 2]) (by simp [results, Tryz.results11, go_sem, q0, q1]) rfl ⟨rfl, ?_⟩
  exact (by repeat (first | exact HB3.out | refine Below.setCell ?_ (by show w.heap.size ≤ w.heap.size + 1 + 1; omega) _))
set_option maxRecDepth 100000 in
set_option maxHeartbeats 4000000 in
theorem rwith1_w (many : Int) (a : Option Addr) (n cap : Nat) (ls : List Lm) (l : Lm) (r : Int) (hr : ckS many ls = r) (h0 : r ≠ 0) (w : World) (h : IsS w (.slice a n cap) ls) :
    Calls Tryz.prog 12 #[.agg #[.int .i64 many, .slice a n cap], .agg #[.int .i64 l.a, .int .i64 l.b, .int .i64 l.m, .int .i64 l.y]] w fun e w' => e = .returned (.tuple #[.agg #[.int .i64 0, .slice none 0 0], .int .i64 r]) ∧ Below w.heap.size w w' := by
  have hc := fun X : World => fun hX : Below w.heap.size w X => hide (rscheck_at hr X (h.below hX))
  have h0' : (r != 0) = true := by simp [h0]
  clear hr h h0
  go_enter Tryz.func12, Tryz.ntmps12
  go_wp2_with (go_at_call 16; refine (hc _ (by repeat (first | exact Below.refl _ _ | assumption | refine Below.alloc ?_ (by first | omega | (simp; omega) | simp) _ | refine Below.setCell ?_ (by first | omega | (simp; omega) | simp) _ | refine below_drewN ?_ _ | refine Below.drew ?_ | refine back ?_ (by assumption)))).out.mono ?_; rintro e w2 ⟨rfl, hb2⟩; have hW := (WithC.start w many (.slice a n cap) l).below (B := w.heap.size + 1 + 1 + 1) (by omega) (hb2.mono (by simp)); have hB2 : Below w.heap.size w w2 := (by repeat (first | exact Below.refl _ _ | assumption | refine Below.alloc ?_ (by first | omega | (simp; omega) | simp) _ | refine Below.setCell ?_ (by first | omega | (simp; omega) | simp) _ | refine below_drewN ?_ _ | refine Below.drew ?_ | refine back ?_ (by assumption))); have hz2 : w.heap.size + 1 + 1 + 1 ≤ w2.heap.size := (by have := hb2.size; simpa using this); obtain ⟨s0, s1, p0, p1, p2, p3, q0, q1, f0, f1⟩ := id hW; have HW2 := hide hW; have HB2 := hide hB2; clear hb2 hW hB2)
  refine bodyPost_ret (v := .tuple #[.agg #[.int .i64 0, .slice none 0 0], .int .i64 r]) (by simp [results, Tryz.results12, go_sem, q0, q1]) rfl ⟨rfl, ?_⟩
  exact (by repeat (first | exact HB2.out | refine Below.setCell ?_ (by show w.heap.size ≤ w.heap.size + 1 + 1; omega) _))
set_option maxRecDepth 100000 in
set_option maxHeartbeats 4000000 in
theorem rwith2_w (many : Int) (a : Option Addr) (n cap : Nat) (ls : List Lm) (l : Lm) (hr : ckS many ls = 0) (hq : ckL many l = 20) (w : World) (h : IsS w (.slice a n cap) ls) :
    Calls Tryz.prog 12 #[.agg #[.int .i64 many, .slice a n cap], .agg #[.int .i64 l.a, .int .i64 l.b, .int .i64 l.m, .int .i64 l.y]] w fun e w' => e = .returned (.tuple #[.agg #[.int .i64 0, .slice none 0 0], .int .i64 20]) ∧ Below w.heap.size w w' := by
  have hc := fun X : World => fun hX : Below w.heap.size w X => hide (rscheck_at hr X (h.below hX))
  have hl := fun X : World => hide (rclim_at hq X)
  clear hr h hq
  go_enter Tryz.func12, Tryz.ntmps12
  go_wp2_with (first | (go_at_call 16; refine (hc _ (by repeat (first | exact Below.refl _ _ | assumption | refine Below.alloc ?_ (by first | omega | (simp; omega) | simp) _ | refine Below.setCell ?_ (by first | omega | (simp; omega) | simp) _ | refine below_drewN ?_ _ | refine Below.drew ?_ | refine back ?_ (by assumption)))).out.mono ?_; rintro e w2 ⟨rfl, hb2⟩; have hW := (WithC.start w many (.slice a n cap) l).below (B := w.heap.size + 1 + 1 + 1) (by omega) (hb2.mono (by simp)); have hB2 : Below w.heap.size w w2 := (by repeat (first | exact Below.refl _ _ | assumption | refine Below.alloc ?_ (by first | omega | (simp; omega) | simp) _ | refine Below.setCell ?_ (by first | omega | (simp; omega) | simp) _ | refine below_drewN ?_ _ | refine Below.drew ?_ | refine back ?_ (by assumption))); have hz2 : w.heap.size + 1 + 1 + 1 ≤ w2.heap.size := (by have := hb2.size; simpa using this); obtain ⟨s0, s1, p0, p1, p2, p3, q0, q1, f0, f1⟩ := id hW; have HW2 := hide hW; have HB2 := hide hB2; clear hb2 hW hB2) | (go_at_call 14; refine (hl _).out.mono ?_; rintro e w3 ⟨rfl, hb3⟩; have hW := HW2.out.below (B := w.heap.size + 1 + 1 + 1) (by omega) (hb3.mono hz2); have hB3 : Below w.heap.size w w3 := HB2.out.trans (hb3.mono (by omega)); have hz3 : w.heap.size + 1 + 1 + 1 ≤ w3.heap.size := (by have := hb3.size; omega); clear s0 s1 p0 p1 p2 p3 q0 q1 f0 f1; obtain ⟨s0, s1, p0, p1, p2, p3, q0, q1, f0, f1⟩ := id hW; have HW3 := hide hW; have HB3 := hide hB3; clear hb3 hW hB3))
  refine bodyPost_ret (v := .tuple #[.agg #[.int .i64 0, .slice none 0 0], .int .i64 20]) (by simp [results, Tryz.results12, go_sem, q0, q1]) rfl ⟨rfl, ?_⟩
  exact (by repeat (first | exact HB3.out | refine Below.setCell ?_ (by show w.heap.size ≤ w.heap.size + 1 + 1; omega) _))
set_option maxRecDepth 100000 in
set_option maxHeartbeats 4000000 in
theorem rwith3_w (many : Int) (a : Option Addr) (n cap : Nat) (ls : List Lm) (l : Lm) (hr : ckS many ls = 0) (hq : ckL many l = 0) (hf : ls.length = 400) (w : World) (h : IsS w (.slice a n cap) ls) :
    Calls Tryz.prog 12 #[.agg #[.int .i64 many, .slice a n cap], .agg #[.int .i64 l.a, .int .i64 l.b, .int .i64 l.m, .int .i64 l.y]] w fun e w' => e = .returned (.tuple #[.agg #[.int .i64 0, .slice none 0 0], .int .i64 2]) ∧ Below w.heap.size w w' := by
  have hc := fun X : World => fun hX : Below w.heap.size w X => hide (rscheck_at hr X (h.below hX))
  have hl := fun X : World => hide (rclim_at hq X)
  have hn : n = 400 := by obtain ⟨_, _, e, _⟩ := h; obtain ⟨_, e2, _⟩ := Value.slice.inj e; omega
  have hn' : ((n : Int) == 400) = true := by rw [hn]; rfl
  clear hr h hq hf hn
  go_enter Tryz.func12, Tryz.ntmps12
  go_wp2_with (first | (go_at_call 16; refine (hc _ (by repeat (first | exact Below.refl _ _ | assumption | refine Below.alloc ?_ (by first | omega | (simp; omega) | simp) _ | refine Below.setCell ?_ (by first | omega | (simp; omega) | simp) _ | refine below_drewN ?_ _ | refine Below.drew ?_ | refine back ?_ (by assumption)))).out.mono ?_; rintro e w2 ⟨rfl, hb2⟩; have hW := (WithC.start w many (.slice a n cap) l).below (B := w.heap.size + 1 + 1 + 1) (by omega) (hb2.mono (by simp)); have hB2 : Below w.heap.size w w2 := (by repeat (first | exact Below.refl _ _ | assumption | refine Below.alloc ?_ (by first | omega | (simp; omega) | simp) _ | refine Below.setCell ?_ (by first | omega | (simp; omega) | simp) _ | refine below_drewN ?_ _ | refine Below.drew ?_ | refine back ?_ (by assumption))); have hz2 : w.heap.size + 1 + 1 + 1 ≤ w2.heap.size := (by have := hb2.size; simpa using this); obtain ⟨s0, s1, p0, p1, p2, p3, q0, q1, f0, f1⟩ := id hW; have HW2 := hide hW; have HB2 := hide hB2; clear hb2 hW hB2) | (go_at_call 14; refine (hl _).out.mono ?_; rintro e w3 ⟨rfl, hb3⟩; have hW := HW2.out.below (B := w.heap.size + 1 + 1 + 1) (by omega) (hb3.mono hz2); have hB3 : Below w.heap.size w w3 := HB2.out.trans (hb3.mono (by omega)); have hz3 : w.heap.size + 1 + 1 + 1 ≤ w3.heap.size := (by have := hb3.size; omega); clear s0 s1 p0 p1 p2 p3 q0 q1 f0 f1; obtain ⟨s0, s1, p0, p1, p2, p3, q0, q1, f0, f1⟩ := id hW; have HW3 := hide hW; have HB3 := hide hB3; clear hb3 hW hB3))
  refine bodyPost_ret (v := .tuple #[.agg #[.int .i64 0, .slice none 0 0], .int .i64 2]) (by simp [results, Tryz.results12, go_sem, q0, q1]) rfl ⟨rfl, ?_⟩
  exact (by repeat (first | exact HB3.out | refine Below.setCell ?_ (by show w.heap.size ≤ w.heap.size + 1 + 1; omega) _))
end Go.Proofs.YtpedbdicjgdgkaaGreat

/- An append of limits in a region that draws its order. -/
namespace Go.Proofs.YtpedbdicjgdgkaaGreat
open Go Go.RowKit

theorem run_catL (B : Nat) (W : World) (v y : Value) (xs ys : List Lm) (ty : TypeId) (hown : OwL B W v xs) (hy : SrcL W y ys) (hl : (xs.length + ys.length) * 32 ≤ 140737488355328) (hB : B ≤ W.heap.size) :
    ∃ v' w', (Builtin.append_ #[22, 22] ty #[v, y]).run Tryz.prog W = .ok v' w' ∧ OwL B w' v' (xs ++ ys) ∧ W.grownBy w' v.ownBlock ∧ (v'.ownBlock = v.ownBlock ∨ v'.ownBlock = some W.heap.size) := by
  obtain ⟨i0, hi, hz0, hz1, hz2⟩ := info_parts infoL
  rcases hy with ⟨rfl, rfl⟩ | ⟨b, off, c, rfl, hc⟩
  · refine ⟨v, W, run_append_owned_none (P := Tryz.prog) (w := W) B 22 ty 26 i0 4 Tryz.underlying22 hi v xs.length (xs.flatMap lmF) hown, by simpa using hown, grownBy_refl W _, .inl rfl⟩
  · obtain ⟨v', w', hr, h2, h3, _, h5⟩ := run_append_own_at (P := Tryz.prog) W B 22 ty 26 i0 _ 4 32 Tryz.underlying22 hi hz0 hz1 hz2 rfl (by decide) v xs.length (xs.flatMap lmF) hown ⟨b, off, none⟩ ys.length c (ys.flatMap lmF) (lmF_len ys) (fun j u hj => by
      have := hc j u hj
      by_cases h0 : j = 0
      · subst h0; simpa [Addr.add] using this
      · simpa [Addr.add, h0] using this) (lmF_one ys) (by unfold maxLen; omega) hl hB
    refine ⟨v', w', hr, ?_, h3, h5⟩
    unfold OwL
    rw [List.length_append, List.flatMap_append]
    exact h2
theorem step_catL {ops : Array Oper} {o : Oper} {a : Act} {w : World} {K : Act → World → Prop} {Q : Exit → Act → World → Prop} {E : Prop} (hgd : o.guard = none) (s x : Operand)
    (ho : o.op = .call { callee := .builtin .append, args := #[s, x], argTypes := #[22, 22] })
    (B : Nat) (v y : Value) (xs ys : List Lm) (hs : a.eval s = v) (hx : a.eval x = y) (hown : OwL B w v xs) (hy : SrcL w y ys) (hl : (xs.length + ys.length) * 32 ≤ 140737488355328) (hB : B ≤ w.heap.size)
    (h : ∀ v' w', OwL B w' v' (xs ++ ys) → Below B w w' → w.grownBy w' v.ownBlock → K (a.put o.dst v') w') :
    if Region.wanted o (yielded ops a.tmps) = true then Oper.wp Tryz.prog o a w K Q else E := by
  rw [if_pos (by simp [Region.wanted, hgd])]
  obtain ⟨v', w', hr, h1, h2, h3⟩ := run_catL B w v y xs ys o.type hown hy hl hB
  unfold Oper.wp execOp
  simp only [ho, resolve, invoke, builtin, Sem.run_bind, Sem.run_pure, Result.andThen_ok, List.map_toArray, List.map_cons, List.map_nil, hs, hx, hr]
  exact h v' w' h1 (grown_bel hown hB h2) h2
theorem SrcL.below {B : Nat} {w w' : World} {y : Value} {ys : List Lm} (h : SrcL w y ys) (hlt : ∀ k, y.ownBlock = some k → k < B) (hb : Below B w w') : SrcL w' y ys := by
  rcases h with h | ⟨b, off, c, rfl, hc⟩
  · exact .inl h
  · refine .inr ⟨b, off, c, rfl, fun j u hj => ?_⟩
    rw [hb.cell (p := ⟨b, off + j, none⟩) (hlt b rfl)]
    exact hc j u hj
theorem SrcL.grown {w w' : World} {y : Value} {ys : List Lm} {r : Option Nat} (h : SrcL w y ys) (hlt : ∀ k, y.ownBlock = some k → k < w.heap.size ∧ some k ≠ r) (hb : w.grownBy w' r) : SrcL w' y ys := by
  rcases h with h | ⟨b, off, c, rfl, hc⟩
  · exact .inl h
  · refine .inr ⟨b, off, c, rfl, fun j u hj => ?_⟩
    obtain ⟨h1, h2⟩ := hlt b rfl
    rw [World.cell?_of_block (w := w) (hb.block b h1 h2)]
    exact hc j u hj
theorem step_catL0 {ops : Array Oper} {o : Oper} {a : Act} {w : World} {K : Act → World → Prop} {Q : Exit → Act → World → Prop} {E : Prop} (hgd : o.guard = none) (s x : Operand)
    (ho : o.op = .call { callee := .builtin .append, args := #[s, x], argTypes := #[22, 22] })
    (B g : Nat) (y : Value) (ys : List Lm) (hs : a.eval s = .slice (some ⟨g, 0, none⟩) 0 0) (hx : a.eval x = y) (hown : OwL B w (.slice (some ⟨g, 0, none⟩) 0 0) []) (hy : SrcL w y ys) (hl : ys.length * 32 ≤ 140737488355328) (hB : B ≤ w.heap.size)
    (h : ∀ v' w', OwL B w' v' ys → Below B w w' → w.grownBy w' (some g) → K (a.put o.dst v') w') :
    if Region.wanted o (yielded ops a.tmps) = true then Oper.wp Tryz.prog o a w K Q else E :=
  step_catL hgd s x ho B _ y [] ys hs hx hown hy (by simpa using hl) hB (fun v' w' h1 h2 h3 => h v' w' h1 h2 h3)
theorem SrcL.grown' {w w' : World} {b g m c : Nat} {ys : List Lm} (h : SrcL w (.slice (some ⟨b, 0, none⟩) m c) ys) (h1 : b < w.heap.size) (h2 : b ≠ g) (hb : w.grownBy w' (some g)) : SrcL w' (.slice (some ⟨b, 0, none⟩) m c) ys :=
  SrcL.grown h (fun k hk => by
    have e : b = k := by simpa [Value.ownBlock] using hk
    subst e
    exact ⟨h1, by simpa using h2⟩) hb
theorem SrcL.alloc {w : World} {b m c : Nat} {o : Obj} {ys : List Lm} (h : SrcL w (.slice (some ⟨b, 0, none⟩) m c) ys) (h1 : b < w.heap.size) : SrcL (w.alloc o) (.slice (some ⟨b, 0, none⟩) m c) ys :=
  SrcL.below (B := w.heap.size) h (fun k hk => by
    have e : b = k := by simpa [Value.ownBlock] using hk
    subst e
    exact h1) ((Below.refl _ _).alloc (Nat.le_refl _) o)
theorem one_srcL' {W : World} {l : Lm} {o : Obj} {b : Nat} (h : o = .cells #[.int .i64 l.a, .int .i64 l.b, .int .i64 l.m, .int .i64 l.y] 26) (hb : b = W.heap.size) : SrcL (W.alloc o) (.slice (some ⟨b, 0, none⟩) 1 1) [l] := by subst hb; exact one_srcL h
theorem OwL.none2 {B b : Nat} {w : World} (hb : b = w.heap.size) (hB : B ≤ w.heap.size) : OwL B (w.alloc (.cells #[] 26)) (.slice (some ⟨b, 0, none⟩) 0 0) [] := by subst hb; exact OwL.none' w hB
theorem OwL.mono {B B' : Nat} {w : World} {v : Value} {xs : List Lm} (h : OwL B w v xs) (hB : B' ≤ B) : OwL B' w v xs := by
  refine ⟨h.1, ?_⟩
  rcases h.2 with hn | ⟨g, cap, cur, hv, hb, rest⟩
  · exact .inl hn
  · exact .inr ⟨g, cap, cur, hv, Nat.le_trans hB hb, rest⟩
theorem SrcL.below' {B : Nat} {w w' : World} {b m c : Nat} {ys : List Lm} (h : SrcL w (.slice (some ⟨b, 0, none⟩) m c) ys) (h1 : b < B) (hb : Below B w w') : SrcL w' (.slice (some ⟨b, 0, none⟩) m c) ys :=
  SrcL.below h (fun k hk => by
    have e : b = k := by simpa [Value.ownBlock] using hk
    subst e
    exact h1) hb
theorem SrcL.drew {w : World} {y : Value} {ys : List Lm} (h : SrcL w y ys) : SrcL w.drew y ys := h
theorem OwL.drew {B : Nat} {w : World} {v : Value} {xs : List Lm} (h : OwL B w v xs) : OwL B w.drew v xs := h
theorem OwL.alloc {B : Nat} {w : World} {v : Value} {xs : List Lm} (h : OwL B w v xs) (o : Obj) : OwL B (w.alloc o) v xs := World.ownsRow.alloc h o
end Go.Proofs.YtpedbdicjgdgkaaGreat

/- The sources of a system: the program's side. -/
namespace Go.Proofs.YtpedbdicjgdgkaaGreat
open Go Go.RowKit

/-- So many zeros. -/
def zrs (n : Nat) : Array Value := (List.replicate n (Value.int .i64 0)).toArray
theorem make_zrs (n : Nat) (h : n * 32 ≤ 140737488355328) (w : World) : (Instr.makeSlice 27 (.int .i64 0) (.int .i64 (n : Int))).run Tryz.prog w = .ok (.slice (some ⟨w.heap.size, 0, none⟩) 0 n) (w.alloc (.cells (zrs n) 3)) := by
  obtain ⟨i0, hi, hz0, hz1, hz2⟩ := info_parts infoI
  have := run_make (P := Tryz.prog) w 27 3 i0 _ Tryz.underlying27 hi hz0 .i64 .i64 0 n (Int.le_refl _) (by omega) (by rw [hz2]; omega) (by omega)
  rw [this]
  have e : madeCells (Value.cells (.int .i64 0)) ((n : Int).toNat * i0.size) = zrs n := by
    rw [hz1, Int.toNat_natCast, Nat.mul_one]
    apply Array.toList_inj.1
    show (madeCells #[Value.int .i64 0] n).toList = _
    rw [toList_madeCells_one]; simp [zrs]
  rw [e]; simp

set_option maxRecDepth 100000 in
set_option maxHeartbeats 4000000 in
theorem sources_w (many : Int) (a : Option Addr) (n cap : Nat) (ls : List Lm) (w : World) (h : IsS w (.slice a n cap) ls) (hbig : ls.length * 32 ≤ 140737488355328) :
    Calls Tryz.prog 19 #[.agg #[.int .i64 many, .slice a n cap]] w fun e w' => ∃ v, e = .returned v ∧ Nice v ∧ IsL w' v (srcs ls) ∧ Below w.heap.size w w' := by
  obtain ⟨a', cap', hv, h1, h2, h3, h4⟩ := h
  cases hv
  unfold maxLen at h2
  have H3 := hide (fun (i : Nat) (hi : i < ls.length) => lmAt_FL h3 hi); have HB := hide hbig
  have hmk := make_zrs ls.length (by omega)
  clear hbig
  go_enter Tryz.func19, Tryz.ntmps19
  go_wp2_with fail
  go_outline
  have hsr := fun (v : Value) (zs : List Int) (W : World) => fun (h : OwI w.heap.size W v zs) (hB : w.heap.size ≤ W.heap.size) (hl : zs.length * 32 ≤ 140737488355328) => rising_w w.heap.size v zs W h hB (by omega)
  obtain ⟨W0, hW0⟩ : ∃ W0, ((w.alloc (.cells #[.int .i64 many, .slice a ls.length cap] 24)).alloc (.cells (zrs ls.length) 3)) = W0 := ⟨_, rfl⟩
  have hb0 : Below w.heap.size w W0 := by rw [← hW0]; exact ((Below.refl _ w).alloc (Nat.le_refl _) _).alloc (by simp) _
  have hown0 : OwI w.heap.size W0 (.slice (some ⟨w.heap.size + 1, 0, none⟩) 0 ls.length) [] := by
    rw [← hW0]
    have := World.ownsRow_made (base := w.heap.size) (e := 3) (size := 1) (w.alloc (.cells #[.int .i64 many, .slice a ls.length cap] 24)) (zrs ls.length) ls.length (by simp) (by have := HB.out; unfold maxLen; omega) (by simp [zrs])
    rw [World.size_alloc] at this
    exact this
  have hz0 : W0.heap.size = w.heap.size + 2 := by rw [← hW0]; simp
  rw [hW0]
  clear hW0 hmk
  go_loopw [3, 13] (fun o i wr => ∃ k : Nat, i = .int .i64 k ∧ k ≤ ls.length ∧ Hid (OwI w.heap.size wr o ((ls.take k).map Lm.y)) ∧ Below w.heap.size w wr ∧ w.heap.size + 1 < wr.heap.size) (fun _ i _ => ls.length - (intOf i).toNat)
  case atStart => exact ⟨0, rfl, Nat.zero_le _, hide hown0, hb0, by omega⟩
  case round =>
    obtain ⟨k, rfl, hk, hil, hbw, hlw⟩ := hrel
    by_cases hlt : k < ls.length
    · obtain ⟨b, off, rfl, hbl, hc⟩ := h4 (by intro h; subst h; simp at hlt)
      obtain ⟨l, hl⟩ : ∃ l, lmAt ls k = l := ⟨_, rfl⟩
      have hck := (hc k hlt).below hbw hbl
      rw [hl] at hck
      obtain ⟨d1, d2, d3, d4⟩ := hck
      have hbw' : b < wr.heap.size := by omega
      have hzr : Hid (w.heap.size ≤ wr.heap.size) := hide (by omega)
      have HT : Hid ((ls.take k).map Lm.y ++ [l.y] = (ls.take (k + 1)).map Lm.y) := by
        show _ = _
        have e : ls[k] = l := by rw [← hl]; simp [lmAt, hlt]
        rw [List.take_succ_eq_append_getElem hlt, List.map_append, e]; rfl
      have HLEN : Hid ((((ls.take k).map Lm.y).length + [l.y].length) * 8 ≤ 140737488355328) := by
        show _ ≤ _
        have := HB.out
        simp only [List.length_map, List.length_take, List.length_cons, List.length_nil]; omega
      clear hl hc
      go_wp2_with (at_builtin; go_loud (refine catI_w rfl (.tmp 17) (.tmp 20) rfl w.heap.size ((wr.alloc (.cells #[.int .i64 l.a, .int .i64 l.b, .int .i64 l.m, .int .i64 l.y] 26)).alloc (.cells #[.int .i64 l.y] 3)) _ (.slice (some ⟨wr.heap.size + 1, 0, none⟩) 1 1) ((ls.take k).map Lm.y) [l.y] (World.ownsRow.alloc (World.ownsRow.alloc hil.out _) _) rfl rfl (by have := one_src (W := wr.alloc (.cells #[.int .i64 l.a, .int .i64 l.b, .int .i64 l.m, .int .i64 l.y] 26)) (n := l.y) rfl; rw [World.size_alloc] at this; exact this) HLEN.out (by have := hzr.out; simp; omega) ?_; intro v1 w1 ho1 hg1 _ _; have hb1 := ((hbw.alloc hzr.out _).alloc (by have := hzr.out; simp; omega) _).trans (grown_bel (World.ownsRow.alloc (World.ownsRow.alloc hil.out _) _) (by have := hzr.out; simp; omega) hg1); rw [HT.out] at ho1; have HO1 := hide ho1; have HS1 : Hid (w.heap.size + 1 < w1.heap.size) := (by have := hg1.size; simp at this; show _ < _; omega); clear ho1 hg1))
      have hs1 := HS1.out
      exact ⟨⟨k + 1, by go_num, by omega, HO1, hb1, hs1⟩, by simp [intOf]; omega⟩
    · have hkl : k = ls.length := by omega
      have HE : Hid (ls.take k = ls) := by show _ = _; rw [hkl, List.take_length]
      clear hkl
      have HI := hil
      rw [HE.out] at HI
      have hsz9 : w.heap.size ≤ wr.heap.size := by omega
      have HLEN : Hid ((ls.map Lm.y).length * 32 ≤ 140737488355328) := by show _ ≤ _; have := HB.out; rw [List.length_map]; exact this
      go_wp2_with (go_at_call 65; go_loud (refine (hsr _ _ wr HI.out hsz9 HLEN.out).mono ?_; rintro e w2 ⟨v2, rfl, ho2, hb2⟩; have HO2 := hide ho2; clear ho2))
      go_ret
      refine ⟨_, rfl, own_nice HO2.out, ?_, hbw.trans hb2⟩
      have h9 := HO2.out.isL (fun x hx => ?_)
      · rw [rsn_srcs] at h9; exact h9
      · rw [rsn_mem] at hx
        obtain ⟨l, hl, rfl⟩ := List.mem_map.1 hx
        exact (h3 l hl).2.2.2
end Go.Proofs.YtpedbdicjgdgkaaGreat
