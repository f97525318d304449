import Derived.Test.YtlpoenoijmifdaaRpt
import Derived.Lib.AppendZerosOnto
set_option linter.unusedVariables false
set_option linter.unusedSimpArgs false
namespace Go.Proofs.Ytlpoenoijmifdaa
open Go.RowKit

set_option maxRecDepth 100000 in
set_option maxHeartbeats 2000000 in
/-- Room for n numbers, from nothing. -/
theorem grow_w (n : Nat) (w : World) (_h0 : 1 ≤ n) (_h1 : n ≤ 1000) :
    Calls Try.prog 91 #[.slice none 0 0, .int .i64 n] w fun e w' => ∃ g cap, e = .returned (.slice (some ⟨g, 0, none⟩) 0 cap) ∧ Own w.heap.size w' (.slice (some ⟨g, 0, none⟩) 0 cap) [] ∧ Below w.heap.size w w' := by
  have hge := grownCap_ge w n 0 3
  have hle := grownCap_le_maxLen w n 0 3 (by unfold maxLen; omega)
  have hc : grownCap w n 0 3 = (Question.appendCap n 0 3).cut (w.tape w.drawn (Question.appendCap n 0 3)) := rfl
  rw [hc] at hge hle
  clear hc
  have HGE := hide hge; have HLE := hide hle
  clear hge hle
  have hb8 : Try.t3.bytes = 8 := rfl
  have hns : Builtin.nextslicecap n 0 = n := by unfold Builtin.nextslicecap; split <;> omega
  have hb9 : ¬ (281474976710656 < (n : Int) * 8) := by omega
  have hb10 : ¬ (281474976710656 < n * 8) := by omega
  have hn0 : ¬ n = 0 := by omega
  have hp : (0 : Int) < n := by omega
  go_enter Try.func91, Try.ntmps91
  go_wp2
  go_ret
  refine ⟨_, _, rfl, ?_, by first | exact (Below.drew (Below.refl _ _)).alloc (Nat.le_refl _) _ | exact Below.drew ((Below.refl _ _).alloc (Nat.le_refl _) _)⟩
  exact World.ownsRow_made (base := w.heap.size) (e := 3) (size := 1) w _ _ (Nat.le_refl _) HLE.out (by rw [Array.size_append, size_zeroCells, size_zeroCells]; have := HGE.out; simp; omega)

set_option maxRecDepth 100000 in
set_option maxHeartbeats 4000000 in
/-- Two slices, one behind the other. -/
theorem concat_w (lb b1 o1 n1 c1 b2 o2 n2 c2 : Nat) (xs ys : List Int) (w : World) (h0 : w.cell? ⟨lb, 0, none⟩ = some (.slice (some ⟨b1, o1, none⟩) n1 c1)) (h1 : w.cell? ⟨lb, 1, none⟩ = some (.slice (some ⟨b2, o2, none⟩) n2 c2))
    (i1 : IsL w (.slice (some ⟨b1, o1, none⟩) n1 c1) xs) (i2 : IsL w (.slice (some ⟨b2, o2, none⟩) n2 c2) ys) (hx : 1 ≤ xs.length) (hx2 : xs.length ≤ 100) (hy : 1 ≤ ys.length) (hy2 : ys.length ≤ 100) :
    Calls Try.prog 80 #[.slice (some ⟨lb, 0, none⟩) 2 2] w fun e w' => ∃ v, e = .returned v ∧ Own w.heap.size w' v (xs ++ ys) ∧ Below w.heap.size w w' := by
  have hn1 : n1 = xs.length := by obtain ⟨_, _, hv, _⟩ := i1; exact (Value.slice.inj hv).2.1
  have hn2 : n2 = ys.length := by obtain ⟨_, _, hv, _⟩ := i2; exact (Value.slice.inj hv).2.1
  have hlb := World.block_lt_of_cell? w _ h0
  have ce : ∀ (b o n c : Nat) (zs : List Int), IsL w (.slice (some ⟨b, o, none⟩) n c) zs → 1 ≤ zs.length → b < w.heap.size ∧ ∀ i, i < zs.length → w.cell? ⟨b, o + i, none⟩ = some (.int .i64 (at_ zs i)) := by
    intro b o n c zs h hz
    obtain ⟨_, _, hv, _, _, _, h4⟩ := h
    obtain ⟨rfl, _, _⟩ := Value.slice.inj hv
    obtain ⟨_, _, e, hlt, hc⟩ := h4 (by intro h; rw [h] at hz; simp at hz)
    cases e
    exact ⟨hlt, hc⟩
  obtain ⟨l1, d1⟩ := ce _ _ _ _ _ i1 hx
  obtain ⟨l2, d2⟩ := ce _ _ _ _ _ i2 hy
  obtain ⟨m1, hm1⟩ : ∃ m, xs.length = m := ⟨_, rfl⟩
  obtain ⟨m2, hm2⟩ : ∃ m, ys.length = m := ⟨_, rfl⟩
  rw [hm1] at hx hx2 d1 hn1
  rw [hm2] at hy hy2 d2 hn2
  subst hn1; subst hn2
  have G := fun X : World => grow_w (n1 + n2) X (by omega) (by omega)
  have HG := hide G; have HD1 := hide d1; have HD2 := hide d2; have HM1 := hide hm1; have HM2 := hide hm2; have HC0 := hide h0; have HC1 := hide h1
  clear G d1 d2 hm1 hm2 i1 i2 ce
  go_enter Try.func80, Try.ntmps80
  go_wp2
  go_loop [3, 11] (fun sz i => ∃ k n : Nat, i = .int .i64 k ∧ sz = .int .i64 n ∧ k ≤ 2 ∧ Hid (n = if k = 0 then 0 else if k = 1 then n1 else n1 + n2)) (fun _ i => 2 - (intOf i).toNat)
  case atStart => exact ⟨0, 0, rfl, rfl, by omega, rfl⟩
  case round =>
    obtain ⟨k, n, rfl, rfl, hk, hn⟩ := hrel
    by_cases hk0 : k = 0
    · subst hk0
      obtain rfl : n = 0 := by simpa using hn.out
      simp only [Int.natCast_zero]
      go_wp2
      go_round
      case rel => exact ⟨1, n1, rfl, by go_num, by omega, hide (by simp)⟩
      case measure => simp [intOf]
    by_cases hk1 : k = 1
    · subst hk1
      obtain rfl : n = n1 := by simpa using hn.out
      simp only [Int.natCast_one]
      go_wp2
      go_round
      case rel => exact ⟨2, n + n2, rfl, by go_num, by omega, hide (by simp)⟩
      case measure => simp [intOf]
    obtain rfl : k = 2 := by omega
    obtain rfl : n = n1 + n2 := by simpa using hn.out
    simp only [Int.cast_ofNat_Int]
    go_wp2_with fail
    refine (HG.out _).mono ?_
    rintro e w1 ⟨g, gc, rfl, ho, hb⟩
    have HO := hide ho; have HB := hide hb
    clear ho hb
    go_wp2_with fail
    go_loopw [6, 27] (fun v i wr => ∃ (k : Nat) (V : Value) (zs : List Int), V = v ∧ i = .int .i64 k ∧ k ≤ 2 ∧ Hid (zs = if k = 0 then [] else if k = 1 then xs else xs ++ ys) ∧ Hid (Own w.heap.size wr V zs) ∧ Hid (Below w.heap.size w wr)) (fun _ i _ => 2 - (intOf i).toNat)
    case atStart => exact ⟨0, _, [], rfl, rfl, by omega, hide (by simp), HO, HB⟩
    case round =>
      obtain ⟨k, V, zs, rfl, rfl, hk, hzs, hown, hbel⟩ := hrel
      have hsz := hbel.out.size
      have e0 : wr.cell? ⟨lb, 0, none⟩ = some (.slice (some ⟨b1, o1, none⟩) n1 c1) := (hbel.out.cell (p := ⟨lb, 0, none⟩) hlb).trans HC0.out
      have e1 : wr.cell? ⟨lb, 1, none⟩ = some (.slice (some ⟨b2, o2, none⟩) n2 c2) := (hbel.out.cell (p := ⟨lb, 1, none⟩) hlb).trans HC1.out
      by_cases hk0 : k = 0
      · subst hk0
        obtain rfl : zs = [] := by simpa using hzs.out
        have hcs : ∀ i, i < n1 → wr.cell? ⟨b1, o1 + i, none⟩ = some (.int .i64 (at_ xs i)) := fun i hi => (hbel.out.cell (p := ⟨b1, o1 + i, none⟩) l1).trans (HD1.out i hi)
        have HCS := hide hcs; clear hcs
        simp only [Int.natCast_zero]
        go_wp2_with (at_builtin; refine cat_w rfl (.tmp 31) (.tmp 32) rfl w.heap.size wr V [] xs b1 o1 n1 c1 hown.out rfl rfl HM1.out HCS.out (by simp; omega) hsz ?_; intro v' w2 hown2 hg2 _)
        go_roundw
        case rel => exact ⟨1, _, _, rfl, rfl, by omega, hide (by simp), hide hown2, hide (hbel.out.trans (grown_below hown.out hsz hg2))⟩
        case measure => simp [intOf]
      by_cases hk1 : k = 1
      · subst hk1
        obtain rfl : zs = xs := by simpa using hzs.out
        have hcs : ∀ i, i < n2 → wr.cell? ⟨b2, o2 + i, none⟩ = some (.int .i64 (at_ ys i)) := fun i hi => (hbel.out.cell (p := ⟨b2, o2 + i, none⟩) l2).trans (HD2.out i hi)
        have HCS := hide hcs; clear hcs
        simp only [Int.natCast_one]
        go_wp2_with (at_builtin; refine cat_w rfl (.tmp 31) (.tmp 32) rfl w.heap.size wr V zs ys b2 o2 n2 c2 hown.out rfl rfl HM2.out HCS.out (by rw [HM1.out]; omega) hsz ?_; intro v' w2 hown2 hg2 _)
        go_roundw
        case rel => exact ⟨2, _, _, rfl, rfl, by omega, hide (by simp), hide hown2, hide (hbel.out.trans (grown_below hown.out hsz hg2))⟩
        case measure => simp [intOf]
      obtain rfl : k = 2 := by omega
      obtain rfl : zs = xs ++ ys := by simpa using hzs.out
      simp only [Int.cast_ofNat_Int]
      go_wp2
      go_ret
      exact ⟨_, rfl, hown.out, hbel.out⟩
end Go.Proofs.Ytlpoenoijmifdaa
