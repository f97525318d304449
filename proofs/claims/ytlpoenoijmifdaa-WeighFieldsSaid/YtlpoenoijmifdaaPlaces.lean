import Derived.Test.YtlpoenoijmifdaaList
set_option linter.unusedVariables false
set_option linter.unusedSimpArgs false
namespace Go.Proofs.Ytlpoenoijmifdaa
open Go.RowKit

def incTo (xs : List Int) (k : Nat) : Bool := (List.range k).all fun i => decide (xs[i]?.getD 0 < xs[i + 1]?.getD 0)
theorem incTo_succ (xs : List Int) (k : Nat) : incTo xs (k + 1) = (incTo xs k && decide (xs[k]?.getD 0 < xs[k + 1]?.getD 0)) := by
  unfold incTo; rw [List.range_succ, List.all_append]; simp

theorem incTo_false (xs : List Int) (k n : Nat) (hk : k < n) (h : ¬ xs[k]?.getD 0 < xs[k + 1]?.getD 0) : incTo xs n = false := by
  unfold incTo; rw [Bool.eq_false_iff]; intro h'; rw [List.all_eq_true] at h'
  have := h' k (List.mem_range.2 hk); simp at this; omega

/-- 2 to 'many' rising numbers from 0 to 'most'. -/
def rise (many most : Int) (xs : List Int) : Bool := decide (2 ≤ (xs.length : Int)) && decide ((xs.length : Int) ≤ many) && xs.all (inB 0 most) && incTo xs (xs.length - 1)
def pl (xs : List Int) : Int := if rise 9 100000 xs = true then 0 else 12

theorem rise_of {many most : Int} {xs : List Int} (h1 : 2 ≤ (xs.length : Int)) (h2 : (xs.length : Int) ≤ many) (h3 : xs.all (inB 0 most) = true) (h4 : incTo xs (xs.length - 1) = true) : rise many most xs = true := by
  unfold rise; simp [h1, h2, h3, h4]
theorem rise_not {many most : Int} {xs : List Int} (h : ¬ (2 ≤ (xs.length : Int)) ∨ ¬ ((xs.length : Int) ≤ many) ∨ xs.all (inB 0 most) = false ∨ incTo xs (xs.length - 1) = false) : rise many most xs = false := by
  unfold rise
  rcases h with h | h | h | h
  · rw [decide_eq_false h]; rfl
  · rw [decide_eq_false h]; simp
  · rw [h]; simp
  · rw [h]; simp

set_option maxHeartbeats 400000 in
theorem places_w (a : Option Addr) (n cap : Nat) (xs : List Int) (w : World) (h : IsL w (.slice a n cap) xs) :
    Calls Try.prog 39 #[.slice a n cap] w fun e w' => e = .returned (.int .i64 (pl xs)) ∧ Drew w w' := by
  have hw := hide (within_w a n cap xs 0 100000 w h)
  obtain ⟨a', cap', hv, hl1, hl2, h3, h4⟩ := h
  cases hv
  unfold maxLen at hl2
  by_cases h1 : (xs.length : Int) < 2
  · have HN : Hid (pl xs = 12) := by show _ = _; unfold pl; rw [rise_not (.inl (by omega))]; rfl
    go_enter Try.func39, Try.ntmps39
    go_wp2_with fail
    go_ret
    exact ⟨ret_int HN.out.symm, ⟨0, rfl⟩⟩
  by_cases h2 : (9 : Int) < xs.length
  · have HN : Hid (pl xs = 12) := by show _ = _; unfold pl; rw [rise_not (.inr (.inl (by omega)))]; rfl
    go_enter Try.func39, Try.ntmps39
    go_wp2_with fail
    go_ret
    exact ⟨ret_int HN.out.symm, ⟨0, rfl⟩⟩
  by_cases hA : xs.all (inB 0 100000) = true
  · have hA' := hide hA
    go_enter Try.func39, Try.ntmps39
    go_wp2_with (go_at_call 71; refine hw.out.mono ?_; rintro e w' ⟨rfl, rfl⟩)
    have hne : xs ≠ [] := by intro h; subst h; simp at h1
    obtain ⟨b, off, rfl, hbl, hc⟩ := h4 hne
    clear h4 h3 hne hw hA
    go_loopw [20] (fun i wr => ∃ k n : Nat, i = .int .i64 k ∧ k ≤ xs.length - 1 ∧ Hid (incTo xs k = true) ∧ wr = w.drewN n) (fun i _ => xs.length - (intOf i).toNat)
    case atStart => exact ⟨0, 0, rfl, Nat.zero_le _, hide rfl, rfl⟩
    case round =>
      obtain ⟨k, n, rfl, hk, hi, rfl⟩ := hrel
      by_cases hlt : k < xs.length - 1
      · have hc1 := hc k (by omega)
        have hc2 := hc (k + 1) (by omega)
        have hs := hide (incTo_succ xs k)
        have hfl := hide (incTo_false xs k (xs.length - 1) hlt)
        obtain ⟨x, hx⟩ : ∃ x, xs[k]?.getD 0 = x := ⟨_, rfl⟩
        obtain ⟨y, hy⟩ : ∃ y, xs[k + 1]?.getD 0 = y := ⟨_, rfl⟩
        rw [hx] at hc1 hs hfl
        rw [hy] at hc2 hs hfl
        clear hx hy hc
        have hl3 : (k : Int) < xs.length - 1 := by omega
        have hl4 : (k : Int) < xs.length := by omega
        have hl5 : (k : Int) + 1 < xs.length := by omega
        by_cases hxy : x < y
        · go_wp2
          go_quiet (fail)
          go_wp2
          go_roundw
          case rel => exact ⟨k + 1, _, by go_num, by omega, hide (by rw [hs.out, hi.out]; simp [hxy]), (by first | rfl | exact World.drewN_drewN _ _ _)⟩
          case measure => simp [intOf]; omega
        · have HN : Hid (pl xs = 12) := by show _ = _; unfold pl; rw [rise_not (.inr (.inr (.inr (hfl.out hxy))))]; rfl
          go_wp2
          go_quiet (fail)
          go_wp2
          go_ret
          exact ⟨ret_int HN.out.symm, (by first | exact ⟨_, rfl⟩ | exact ⟨_, World.drewN_drewN _ _ _⟩)⟩
      · have HN : Hid (pl xs = 0) := by
          show _ = _; unfold pl; rw [rise_of (by omega) (by omega) hA'.out (by have := hi.out; rw [show k = xs.length - 1 by omega] at this; exact this)]; rfl
        have hl3 : ¬ ((k : Int) < xs.length - 1) := by omega
        go_wp2
        go_ret
        exact ⟨ret_int HN.out.symm, ⟨n, rfl⟩⟩
  · have hA' : xs.all (inB 0 100000) = false := by simpa using hA
    have HN : Hid (pl xs = 12) := by show _ = _; unfold pl; rw [rise_not (.inr (.inr (.inl hA')))]; rfl
    clear hA
    go_enter Try.func39, Try.ntmps39
    go_wp2_with (go_at_call 71; refine hw.out.mono ?_; rintro e w' ⟨rfl, rfl⟩)
    go_ret
    exact ⟨ret_int HN.out.symm, ⟨0, rfl⟩⟩

set_option maxHeartbeats 400000 in
theorem rising_w (a : Option Addr) (n cap : Nat) (xs : List Int) (many most : Int) (w : World) (h : IsL w (.slice a n cap) xs) :
    Calls Try.prog 72 #[.slice a n cap, .int .i64 many, .int .i64 most] w fun e w' => e = .returned (.bool (rise many most xs)) ∧ Drew w w' := by
  obtain ⟨a', cap', hv, hl1, hl2, h3, h4⟩ := h
  cases hv
  unfold maxLen at hl2
  by_cases h1 : (xs.length : Int) < 2
  · have HN : Hid (rise many most xs = false) := rise_not (.inl (by omega))
    go_enter Try.func72, Try.ntmps72
    go_wp2_with fail
    go_ret
    exact ⟨ret_bool HN.out.symm, ⟨0, rfl⟩⟩
  by_cases h2 : many < (xs.length : Int)
  · have HN : Hid (rise many most xs = false) := rise_not (.inr (.inl (by omega)))
    go_enter Try.func72, Try.ntmps72
    go_wp2_with fail
    go_ret
    exact ⟨ret_bool HN.out.symm, ⟨0, rfl⟩⟩
  · have hne : xs ≠ [] := by intro h; subst h; simp at h1
    obtain ⟨b, off, rfl, hbl, hc⟩ := h4 hne
    clear h4 h3 hne
    go_enter Try.func72, Try.ntmps72
    go_wp2
    go_loopw [7] (fun i wr => ∃ k n : Nat, i = .int .i64 k ∧ k ≤ xs.length ∧ Hid ((xs.take k).all (inB 0 most) = true) ∧ Hid (incTo xs (k - 1) = true) ∧ wr = w.drewN n) (fun i _ => xs.length - (intOf i).toNat)
    case atStart => exact ⟨0, 0, rfl, Nat.zero_le _, hide (by simp), hide rfl, rfl⟩
    case round =>
      obtain ⟨k, n, rfl, hk, ha, hi, rfl⟩ := hrel
      by_cases hlt : k < xs.length
      · have hc1 := hc k hlt
        have hx : xs[k]?.getD 0 = xs[k] := by simp [hlt]
        have hta := hide (take_all (inB 0 most) xs k hlt)
        have htf := hide (all_false (inB 0 most) xs k hlt)
        obtain ⟨x, hxk⟩ : ∃ x, xs[k] = x := ⟨_, rfl⟩
        rw [hx, hxk] at hc1
        rw [hxk] at hx hta htf
        have hl4 : (k : Int) < xs.length := by omega
        by_cases hx0 : x < 0
        · have d1 : decide (x < 0) = true := by simpa using hx0
          have HN : Hid (rise many most xs = false) := rise_not (.inr (.inr (.inl (htf.out (inB_f (by omega))))))
          clear hx hxk hc
          go_wp2
          go_quiet (fail)
          go_wp2
          go_ret
          exact ⟨ret_bool HN.out.symm, (by first | exact ⟨_, rfl⟩ | exact ⟨_, World.drewN_drewN _ _ _⟩)⟩
        have d1 : decide (x < 0) = false := by simpa using hx0
        by_cases hxm : most < x
        · have d2 : decide (most < x) = true := by simpa using hxm
          have HN : Hid (rise many most xs = false) := rise_not (.inr (.inr (.inl (htf.out (inB_f (by omega))))))
          clear hx hxk hc
          go_wp2
          go_quiet (fail)
          go_wp2
          go_ret
          exact ⟨ret_bool HN.out.symm, (by first | exact ⟨_, rfl⟩ | exact ⟨_, World.drewN_drewN _ _ _⟩)⟩
        have d2 : decide (most < x) = false := by simpa using hxm
        have hB : Hid ((xs.take (k + 1)).all (inB 0 most) = true) := by show _ = _; rw [hta.out, ha.out, inB_t (by omega)]; rfl
        by_cases hk0 : k = 0
        · subst hk0
          simp only [Nat.add_zero] at hc1
          have hp : (0 : Int) < (xs.length : Int) := by omega
          clear hx hxk hc
          go_wp2
          go_quiet (fail)
          go_wp2
          go_roundw
          case rel => exact ⟨1, _, rfl, by omega, hB, hide rfl, (by first | rfl | exact World.drewN_drewN _ _ _)⟩
          case measure => simp [intOf]; omega
        · obtain ⟨j, rfl⟩ : ∃ j, k = j + 1 := ⟨k - 1, by omega⟩
          have hc2 := hc j (by omega)
          have hs := incTo_succ xs j
          rw [hx] at hs
          have hfl := incTo_false xs j (xs.length - 1) (by omega)
          rw [hx] at hfl
          obtain ⟨y, hy⟩ : ∃ y, xs[j]?.getD 0 = y := ⟨_, rfl⟩
          rw [hy] at hc2 hs hfl
          have HS := hide hs; have HF := hide hfl
          clear hx hxk hc hy hs hfl hk0
          simp only [Int.natCast_add, Int.cast_ofNat_Int] at hl4 ⊢
          have d3 : decide ((0 : Int) < (j : Int) + 1) = true := decide_eq_true (by omega)
          have hj1 : (j : Int) < xs.length := by omega
          have w1 : IntKind.i64.wrap ((j : Int) + 1 - 1) = (j : Int) := by rw [show (j : Int) + 1 - 1 = j by omega]; exact IntWalk.i64_in _ (by omega)
          by_cases hxy : y < x
          · have d4 : decide (x ≤ y) = false := by simp; omega
            go_wp2
            go_quiet (fail)
            go_wp2
            go_roundw
            case rel => exact ⟨j + 1 + 1, _, by go_num, by omega, hB, hide (by have hi' : incTo xs j = true := hi.out; show incTo xs (j + 1) = true; rw [HS.out, hi']; simp [hxy]), (by first | rfl | exact World.drewN_drewN _ _ _)⟩
            case measure => simp [intOf]; omega
          · have d4 : decide (x ≤ y) = true := by simp; omega
            have HN : Hid (rise many most xs = false) := rise_not (.inr (.inr (.inr (HF.out hxy))))
            go_wp2
            go_quiet (fail)
            go_wp2
            go_ret
            exact ⟨ret_bool HN.out.symm, (by first | exact ⟨_, rfl⟩ | exact ⟨_, World.drewN_drewN _ _ _⟩)⟩
      · have HN : Hid (rise many most xs = true) := by
          have hkl : k = xs.length := by omega
          subst hkl
          exact rise_of (by omega) (by omega) (by have := ha.out; rw [List.take_length] at this; exact this) hi.out
        have hl4 : ¬ ((k : Int) < xs.length) := by omega
        go_wp2
        go_ret
        exact ⟨ret_bool HN.out.symm, ⟨n, rfl⟩⟩

set_option maxHeartbeats 400000 in
theorem rplaces_w (a : Option Addr) (n cap : Nat) (xs : List Int) (w : World) (h : IsL w (.slice a n cap) xs) :
    Calls Try.prog 40 #[.slice a n cap] w fun e w' => e = .returned (.int .i64 (pl xs)) ∧ Drew w w' := by
  cases hr : rise 9 100000 xs with
  | true =>
    have HN : Hid (pl xs = 0) := by show _ = _; unfold pl; rw [hr]; rfl
    have hw := rising_w a n cap xs 9 100000 w h
    rw [hr] at hw
    have HW := hide hw; clear hw hr
    go_enter Try.func40, Try.ntmps40
    go_wp2_with (go_at_call 72; refine HW.out.mono ?_; rintro e w' ⟨rfl, n, rfl⟩)
    go_ret
    exact ⟨ret_int HN.out.symm, ⟨_, rfl⟩⟩
  | false =>
    have HN : Hid (pl xs = 12) := by show _ = _; unfold pl; rw [hr]; rfl
    have hw := rising_w a n cap xs 9 100000 w h
    rw [hr] at hw
    have HW := hide hw; clear hw hr
    go_enter Try.func40, Try.ntmps40
    go_wp2_with (go_at_call 72; refine HW.out.mono ?_; rintro e w' ⟨rfl, n, rfl⟩)
    go_ret
    exact ⟨ret_int HN.out.symm, ⟨_, rfl⟩⟩
end Go.Proofs.Ytlpoenoijmifdaa
