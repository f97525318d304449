import Derived.Test.YtlpoenoijmifdaaGrq
set_option linter.unusedVariables false
set_option linter.unusedSimpArgs false
namespace Go.Proofs.Ytlpoenoijmifdaa
open Go.RowKit

def grsE (xs : List Int) : List (Nat × Nat) := if rise 9 100000 xs = true then grs xs else []

theorem IsGB.nil (B : Nat) (w : World) : IsGB B w (.slice none 0 0) [] := ⟨none, 0, rfl, Nat.le_refl _, Nat.zero_le _, fun h => absurd rfl h⟩

set_option maxHeartbeats 400000 in
theorem Groups_w (a : Option Addr) (n cap : Nat) (xs : List Int) (w : World) (h : IsL w (.slice a n cap) xs) :
    Calls Try.prog 33 #[.slice a n cap] w fun e w' => ∃ v, e = .returned (.tuple #[v, .int .i64 (pl xs)]) ∧ IsGB w'.heap.size w' v (grsE xs) ∧ Below w.heap.size w w' := by
  have hw := places_w a n cap xs w h
  cases hr : rise 9 100000 xs with
  | true =>
    have hg := fun k : Nat => groupsOf_w a n cap xs (w.drewN k) (h.drewN k) (Pos.of hr)
    have e1 : pl xs = 0 := by unfold pl; rw [hr]; rfl
    have e2 : Hid (grsE xs = grs xs) := by show grsE xs = _; unfold grsE; rw [hr]; rfl
    rw [e1] at hw ⊢
    have HW := hide hw; have HG := hide hg; clear hw hg hr e1 h
    go_enter Try.func33, Try.ntmps33
    go_wp2_with (first | (go_at_call 39; refine HW.out.mono ?_; rintro e w' ⟨rfl, k, rfl⟩) | (go_at_call 67; refine (HG.out _).mono ?_; rintro e w1 ⟨v, rfl, hv, _, hb⟩))
    go_ret2
    exact ⟨v, rfl, by rw [e2.out]; exact hv, (below_drewN (Below.refl _ _) _).trans hb⟩
  | false =>
    have e1 : pl xs = 12 := by unfold pl; rw [hr]; rfl
    have e2 : Hid (grsE xs = []) := by show grsE xs = _; unfold grsE; rw [hr]; rfl
    rw [e1] at hw ⊢
    have HW := hide hw; clear hw hr e1 h
    go_enter Try.func33, Try.ntmps33
    go_wp2_with (go_at_call 39; refine HW.out.mono ?_; rintro e w' ⟨rfl, k, rfl⟩)
    go_ret2
    exact ⟨_, rfl, by rw [e2.out]; exact IsGB.nil _ _, below_drewN (Below.refl _ _) _⟩

set_option maxHeartbeats 400000 in
theorem rGroups_w (a : Option Addr) (n cap : Nat) (xs : List Int) (w : World) (h : IsL w (.slice a n cap) xs) :
    Calls Try.prog 34 #[.slice a n cap] w fun e w' => ∃ v, e = .returned (.tuple #[v, .int .i64 (pl xs)]) ∧ IsGB w'.heap.size w' v (grsE xs) ∧ Below w.heap.size w w' := by
  have hw := rplaces_w a n cap xs w h
  cases hr : rise 9 100000 xs with
  | true =>
    have hg := fun k : Nat => rgroups_w a n cap xs (w.drewN k) (h.drewN k) (Pos.of hr)
    have e1 : pl xs = 0 := by unfold pl; rw [hr]; rfl
    have e2 : Hid (grsE xs = grs xs) := by show grsE xs = _; unfold grsE; rw [hr]; rfl
    rw [e1] at hw ⊢
    have HW := hide hw; have HG := hide hg; clear hw hg hr e1 h
    go_enter Try.func34, Try.ntmps34
    go_wp2_with (first | (go_at_call 40; refine HW.out.mono ?_; rintro e w' ⟨rfl, k, rfl⟩) | (go_at_call 68; refine (HG.out _).mono ?_; rintro e w1 ⟨v, rfl, hv, _, hb⟩))
    go_ret2
    exact ⟨v, rfl, by rw [e2.out]; exact hv, (below_drewN (Below.refl _ _) _).trans hb⟩
  | false =>
    have e1 : pl xs = 12 := by unfold pl; rw [hr]; rfl
    have e2 : Hid (grsE xs = []) := by show grsE xs = _; unfold grsE; rw [hr]; rfl
    rw [e1] at hw ⊢
    have HW := hide hw; clear hw hr e1 h
    go_enter Try.func34, Try.ntmps34
    go_wp2_with (go_at_call 40; refine HW.out.mono ?_; rintro e w' ⟨rfl, k, rfl⟩)
    go_ret2
    exact ⟨_, rfl, by rw [e2.out]; exact IsGB.nil _ _, below_drewN (Below.refl _ _) _⟩

set_option maxHeartbeats 400000 in
/-- Two slices that read as one list are the same. -/
theorem sameInts_w (v1 v2 : Value) (xs : List Int) (w : World) (h1 : IsL w v1 xs) (h2 : IsL w v2 xs) :
    Calls Try.prog 38 #[v1, v2] w fun e w' => e = .returned (.bool true) ∧ Drew w w' := by
  obtain ⟨a1, c1, rfl, l1, m1, _, k1⟩ := h1
  obtain ⟨a2, c2, rfl, l2, m2, _, k2⟩ := h2
  unfold maxLen at m1 m2
  go_enter Try.func38, Try.ntmps38
  go_wp2
  go_loopw [5] (fun i wr => ∃ k n : Nat, i = .int .i64 k ∧ k ≤ xs.length ∧ wr = w.drewN n) (fun i _ => xs.length - (intOf i).toNat)
  case atStart => exact ⟨0, 0, rfl, Nat.zero_le _, rfl⟩
  case round =>
    obtain ⟨k, n, rfl, hk, rfl⟩ := hrel
    by_cases hlt : k < xs.length
    · have hne : xs ≠ [] := by intro h; subst h; simp at hlt
      obtain ⟨b1, o1, rfl, _, q1⟩ := k1 hne
      obtain ⟨b2, o2, rfl, _, q2⟩ := k2 hne
      have d1 := q1 k hlt
      have d2 := q2 k hlt
      clear q1 q2 hne
      have hl : (k : Int) < xs.length := by omega
      obtain ⟨x, hx⟩ : ∃ x, xs[k]?.getD 0 = x := ⟨_, rfl⟩
      rw [hx] at d1 d2
      clear hx
      go_wp2
      go_quiet (fail)
      go_wp2
      go_roundw
      case rel => exact ⟨k + 1, _, by go_num, by omega, (by first | rfl | exact World.drewN_drewN _ _ _)⟩
      case measure => simp [intOf]; omega
    · have hl : ¬ ((k : Int) < xs.length) := by omega
      go_wp2
      go_ret
      exact ⟨rfl, n, rfl⟩

def gAt (a : List (Nat × Nat)) (i : Nat) : Nat × Nat := a[i]?.getD (0, 0)
def sameTo (a b : List (Nat × Nat)) (m : Int) (k : Nat) : Bool := (List.range k).all fun i => decide (((gAt a i).1 : Int) = ((gAt b i).1 : Int) + m ∧ (gAt a i).2 = (gAt b i).2)
/-- The groups a are the groups b, moved by a number. -/
def sameG (a b : List (Nat × Nat)) (m : Int) : Bool := decide (a.length = b.length) && sameTo a b m a.length

theorem sameTo_succ (a b : List (Nat × Nat)) (m : Int) (k : Nat) : sameTo a b m (k + 1) = (sameTo a b m k && decide (((gAt a k).1 : Int) = ((gAt b k).1 : Int) + m ∧ (gAt a k).2 = (gAt b k).2)) := by
  unfold sameTo; rw [List.range_succ, List.all_append]; simp
theorem sameTo_false (a b : List (Nat × Nat)) (m : Int) (k n : Nat) (hk : k < n) (h : ¬ (((gAt a k).1 : Int) = ((gAt b k).1 : Int) + m ∧ (gAt a k).2 = (gAt b k).2)) : sameTo a b m n = false := by
  unfold sameTo; rw [Bool.eq_false_iff]; intro h'; rw [List.all_eq_true] at h'
  have := h' k (List.mem_range.2 hk); simp only [decide_eq_true_eq] at this; exact h this
theorem sameG_refl (a : List (Nat × Nat)) : sameG a a 0 = true := by
  unfold sameG sameTo; simp

set_option maxHeartbeats 1000000 in
theorem sameGroups_w (v1 v2 : Value) (xs ys : List (Nat × Nat)) (m : Int) (w : World) (B1 B2 : Nat) (h1 : IsGB B1 w v1 xs) (h2 : IsGB B2 w v2 ys) (hm0 : 0 ≤ m) (hm1 : m ≤ 1000)
    (hb : ∀ i, (gAt ys i).1 ≤ 1000) :
    Calls Try.prog 37 #[v1, v2, .int .i64 m] w fun e w' => e = .returned (.bool (sameG xs ys m)) ∧ Drew w w' := by
  obtain ⟨a1, c1, rfl, l1, m1, k1⟩ := h1
  obtain ⟨a2, c2, rfl, l2, m2, k2⟩ := h2
  unfold maxLen at m1 m2
  by_cases hl : xs.length = ys.length
  · have hl' : ((xs.length : Int) != (ys.length : Int)) = false := by simp; omega
    have HL := hide hl; clear hl
    have HBD := hide hb; clear hb
    go_enter Try.func37, Try.ntmps37
    go_wp2
    go_loopw [7] (fun i wr => ∃ k n : Nat, i = .int .i64 k ∧ k ≤ xs.length ∧ Hid (sameTo xs ys m k = true) ∧ wr = w.drewN n) (fun i _ => xs.length - (intOf i).toNat)
    case atStart => exact ⟨0, 0, rfl, Nat.zero_le _, hide rfl, rfl⟩
    case round =>
      obtain ⟨k, n, rfl, hk, hs, rfl⟩ := hrel
      by_cases hlt : k < xs.length
      · obtain ⟨b1, o1, rfl, _, q1⟩ := k1 (by intro h; subst h; simp at hlt)
        obtain ⟨b2, o2, rfl, _, q2⟩ := k2 (by intro h; subst h; have : xs.length = 0 := HL.out; omega)
        have d1 := q1 k hlt
        have d2 := q2 k (by have := HL.out; omega)
        obtain ⟨d1a, d1b⟩ := d1
        obtain ⟨d2a, d2b⟩ := d2
        have hss := sameTo_succ xs ys m k
        have hsf := sameTo_false xs ys m k xs.length hlt
        have hby := HBD.out k
        unfold gAt at hss hsf hby
        obtain ⟨p, hp⟩ : ∃ p, xs[k]?.getD (0, 0) = p := ⟨_, rfl⟩
        obtain ⟨q, hq⟩ : ∃ p, ys[k]?.getD (0, 0) = p := ⟨_, rfl⟩
        rw [hp] at d1a d1b hss hsf
        rw [hq] at d2a d2b hss hsf hby
        obtain ⟨p1, p2⟩ := p
        obtain ⟨q1', q2'⟩ := q
        have HSS := hide hss; have HSF := hide hsf
        clear hp hq hss hsf q1 q2
        simp only at d1a d1b d2a d2b hby
        have hl3 : (k : Int) < xs.length := by omega
        have hl4 : (k : Int) < ys.length := by have := HL.out; omega
        by_cases e1 : (p1 : Int) = q1' + m
        · by_cases e2 : p2 = q2'
          · have f1 : ((p1 : Int) != (q1' : Int) + m) = false := by simp; omega
            have HN : Hid (sameTo xs ys m (k + 1) = true) := by show _ = _; rw [HSS.out, hs.out]; simp [e1, e2]
            subst e2
            clear e1
            go_wp2
            go_quiet (fail)
            go_wp2
            go_roundw
            case rel => exact ⟨k + 1, _, by go_num, by omega, HN, (by first | rfl | exact World.drewN_drewN _ _ _)⟩
            case measure => simp [intOf]; omega
          · have f1 : ((p1 : Int) != (q1' : Int) + m) = false := by simp; omega
            have f2 : ((p2 : Int) != (q2' : Int)) = true := by simp; omega
            have HN : Hid (sameG xs ys m = false) := by show _ = _; unfold sameG; rw [HSF.out (by intro h; exact e2 h.2)]; simp
            clear e1 e2
            go_wp2
            go_quiet (fail)
            go_wp2
            go_ret
            exact ⟨ret_bool HN.out.symm, (by first | exact ⟨_, rfl⟩ | exact ⟨_, World.drewN_drewN _ _ _⟩)⟩
        · have f1 : ((p1 : Int) != (q1' : Int) + m) = true := by simp; omega
          have HN : Hid (sameG xs ys m = false) := by show _ = _; unfold sameG; rw [HSF.out (by intro h; exact e1 h.1)]; simp
          clear e1
          go_wp2
          go_quiet (fail)
          go_wp2
          go_ret
          exact ⟨ret_bool HN.out.symm, (by first | exact ⟨_, rfl⟩ | exact ⟨_, World.drewN_drewN _ _ _⟩)⟩
      · have hl3 : ¬ ((k : Int) < xs.length) := by omega
        have HN : Hid (sameG xs ys m = true) := by
          show _ = _; unfold sameG; have := hs.out; rw [show k = xs.length by omega] at this; rw [this]; simp [HL.out]
        go_wp2
        go_ret
        exact ⟨ret_bool HN.out.symm, n, rfl⟩
  · have hl' : ((xs.length : Int) != (ys.length : Int)) = true := by simp; omega
    have HN : Hid (sameG xs ys m = false) := by show _ = _; unfold sameG; rw [decide_eq_false hl]; rfl
    clear hl
    go_enter Try.func37, Try.ntmps37
    go_wp2
    go_ret
    exact ⟨ret_bool HN.out.symm, 0, rfl⟩
end Go.Proofs.Ytlpoenoijmifdaa
