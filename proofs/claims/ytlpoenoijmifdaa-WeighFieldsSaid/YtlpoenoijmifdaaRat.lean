import Derived.Test.YtlpoenoijmifdaaPlaces
import Derived.Test.YtlpoenoijmifdaaMath
set_option linter.unusedVariables false
set_option linter.unusedSimpArgs false
namespace Go.Proofs.Ytlpoenoijmifdaa
open Go.RowKit

theorem rat_of {a b k : Int} (ha : 1 ≤ a) (hb : 1 ≤ b) (hk : k = 1 ∨ k = 2 ∨ k = 3) (h : b = k * a ∨ a = k * b) : rat a b = k := by
  unfold rat
  rcases hk with rfl | rfl | rfl <;> (repeat' split) <;> omega

theorem rat_no {a b : Int} (h1 : ¬ (b = a)) (h2 : ¬ (b = 2 * a)) (h2' : ¬ (a = 2 * b)) (h3 : ¬ (b = 3 * a)) (h3' : ¬ (a = 3 * b)) : rat a b = 0 := by
  unfold rat; (repeat' split) <;> omega

theorem rat_or (a b : Int) : rat a b = 0 ∨ rat a b = 1 ∨ rat a b = 2 ∨ rat a b = 3 := by
  unfold rat; (repeat' split) <;> omega

theorem rat_sym (a b : Int) : rat a b = rat b a := by
  unfold rat; (repeat' split) <;> omega

set_option maxHeartbeats 1000000 in
theorem ratio_lt (a b : Int) (w : World) (_ha : 1 ≤ a) (_ha2 : a ≤ 100000) (_hb : 1 ≤ b) (_hb2 : b ≤ 100000) (hab : a < b) :
    Calls Try.prog 85 #[.int .i64 a, .int .i64 b] w fun e w' => e = .returned (.int .i64 (rat a b)) ∧ w = w' := by
  go_enter Try.func85, Try.ntmps85
  go_wp2
  go_loop [7] (fun i => ∃ k : Int, i = .int .i64 k ∧ (k = 1 ∨ k = 2 ∨ k = 3 ∧ ¬ (b = 2 * a) ∨ k = 4 ∧ ¬ (b = 2 * a) ∧ ¬ (b = 3 * a))) (fun i => (4 - intOf i).toNat)
  case atStart => exact ⟨1, rfl, .inl rfl⟩
  case round =>
    obtain ⟨k, rfl, hk⟩ := hrel
    rcases hk with rfl | rfl | ⟨rfl, h2⟩ | ⟨rfl, h2, h3⟩
    · have e1 : (b == a) = false := by simp; omega
      go_wp2
      go_round
      case rel => exact ⟨2, rfl, .inr (.inl rfl)⟩
      case measure => simp [intOf]
    · by_cases h : b = 2 * a
      · have HN := hide (rat_of (a := a) (b := b) (k := 2) _ha _hb (by omega) (.inl h))
        have e1 : (b == 2 * a) = true := by simpa using h
        clear h
        go_wp2
        go_ret
        exact ⟨ret_int HN.out.symm, rfl⟩
      · have e1 : (b == 2 * a) = false := by simpa using h
        go_wp2
        go_round
        case rel => exact ⟨3, rfl, .inr (.inr (.inl ⟨rfl, h⟩))⟩
        case measure => simp [intOf]
    · by_cases h : b = 3 * a
      · have HN := hide (rat_of (a := a) (b := b) (k := 3) _ha _hb (by omega) (.inl h))
        have e1 : (b == 3 * a) = true := by simpa using h
        clear h
        go_wp2
        go_ret
        exact ⟨ret_int HN.out.symm, rfl⟩
      · have e1 : (b == 3 * a) = false := by simpa using h
        go_wp2
        go_round
        case rel => exact ⟨4, rfl, .inr (.inr (.inr ⟨rfl, h2, h⟩))⟩
        case measure => simp [intOf]
    · have HN := hide (rat_no (a := a) (b := b) (by omega) h2 (by omega) h3 (by omega))
      go_wp2
      go_ret
      exact ⟨ret_int HN.out.symm, rfl⟩

set_option maxHeartbeats 1000000 in
theorem ratio_eq (a : Int) (w : World) (_ha : 1 ≤ a) (_ha2 : a ≤ 100000) :
    Calls Try.prog 85 #[.int .i64 a, .int .i64 a] w fun e w' => e = .returned (.int .i64 1) ∧ w = w' := by
  go_enter Try.func85, Try.ntmps85
  go_wp2
  go_loop [7] (fun i => i = .int .i64 1) (fun i => (4 - intOf i).toNat)
  case atStart => rfl
  case round =>
    subst hrel
    go_wp2
    go_ret
    exact ⟨rfl, rfl⟩

set_option maxHeartbeats 1000000 in
theorem ratio_gt (a b : Int) (w : World) (_ha : 1 ≤ a) (_ha2 : a ≤ 100000) (_hb : 1 ≤ b) (_hb2 : b ≤ 100000) (hab : b < a) :
    Calls Try.prog 85 #[.int .i64 a, .int .i64 b] w fun e w' => e = .returned (.int .i64 (rat a b)) ∧ w = w' := by
  go_enter Try.func85, Try.ntmps85
  go_wp2
  go_loop [7] (fun i => ∃ k : Int, i = .int .i64 k ∧ (k = 1 ∨ k = 2 ∨ k = 3 ∧ ¬ (a = 2 * b) ∨ k = 4 ∧ ¬ (a = 2 * b) ∧ ¬ (a = 3 * b))) (fun i => (4 - intOf i).toNat)
  case atStart => exact ⟨1, rfl, .inl rfl⟩
  case round =>
    obtain ⟨k, rfl, hk⟩ := hrel
    rcases hk with rfl | rfl | ⟨rfl, h2⟩ | ⟨rfl, h2, h3⟩
    · have e1 : (a == b) = false := by simp; omega
      go_wp2
      go_round
      case rel => exact ⟨2, rfl, .inr (.inl rfl)⟩
      case measure => simp [intOf]
    · by_cases h : a = 2 * b
      · have HN := hide (rat_of (a := a) (b := b) (k := 2) _ha _hb (by omega) (.inr h))
        have e1 : (a == 2 * b) = true := by simpa using h
        clear h
        go_wp2
        go_ret
        exact ⟨ret_int HN.out.symm, rfl⟩
      · have e1 : (a == 2 * b) = false := by simpa using h
        go_wp2
        go_round
        case rel => exact ⟨3, rfl, .inr (.inr (.inl ⟨rfl, h⟩))⟩
        case measure => simp [intOf]
    · by_cases h : a = 3 * b
      · have HN := hide (rat_of (a := a) (b := b) (k := 3) _ha _hb (by omega) (.inr h))
        have e1 : (a == 3 * b) = true := by simpa using h
        clear h
        go_wp2
        go_ret
        exact ⟨ret_int HN.out.symm, rfl⟩
      · have e1 : (a == 3 * b) = false := by simpa using h
        go_wp2
        go_round
        case rel => exact ⟨4, rfl, .inr (.inr (.inr ⟨rfl, h2, h⟩))⟩
        case measure => simp [intOf]
    · have HN := hide (rat_no (a := a) (b := b) (by omega) (by omega) h2 (by omega) h3)
      go_wp2
      go_ret
      exact ⟨ret_int HN.out.symm, rfl⟩


theorem ratio_w (a b : Int) (w : World) (_ha : 1 ≤ a) (_ha2 : a ≤ 100000) (_hb : 1 ≤ b) (_hb2 : b ≤ 100000) :
    Calls Try.prog 85 #[.int .i64 a, .int .i64 b] w fun e w' => e = .returned (.int .i64 (rat a b)) ∧ w = w' := by
  rcases Int.lt_trichotomy a b with h | h | h
  · exact ratio_lt a b w _ha _ha2 _hb _hb2 h
  · subst h; rw [show rat a a = 1 by simp [rat]]; exact ratio_eq a w _ha _ha2
  · exact ratio_gt a b w _ha _ha2 _hb _hb2 h

set_option maxHeartbeats 1000000 in
theorem times_w (a b : Int) (w : World) (_ha : 1 ≤ a) (_ha2 : a ≤ 100000) (_hb : 1 ≤ b) (_hb2 : b ≤ 100000) :
    Calls Try.prog 86 #[.int .i64 a, .int .i64 b] w fun e w' => e = .returned (.int .i64 (rat a b)) ∧ w = w' := by
  go_enter Try.func86, Try.ntmps86
  go_wp2
  go_loop [5] (fun i => ∃ k : Int, i = .int .i64 k ∧ (k = 1 ∨ k = 2 ∧ ¬ (b = a) ∨ k = 3 ∧ ¬ (b = a) ∧ ¬ (b = 2 * a) ∧ ¬ (a = 2 * b) ∨ k = 4 ∧ ¬ (b = a) ∧ ¬ (b = 2 * a) ∧ ¬ (a = 2 * b) ∧ ¬ (b = 3 * a) ∧ ¬ (a = 3 * b))) (fun i => (4 - intOf i).toNat)
  case atStart => exact ⟨1, rfl, .inl rfl⟩
  case round =>
    obtain ⟨k, rfl, hk⟩ := hrel
    rcases hk with rfl | ⟨rfl, h1⟩ | ⟨rfl, h1, h2, h2'⟩ | ⟨rfl, h1, h2, h2', h3, h3'⟩
    · by_cases h : b = a
      · subst h
        have HN := hide (rat_of (a := b) (b := b) (k := 1) _ha _hb (by omega) (by omega))
        go_wp2
        go_ret
        exact ⟨ret_int HN.out.symm, rfl⟩
      · have e1 : (a == b) = false := by simp; omega
        have e2 : (b == a) = false := by simp; omega
        go_wp2
        go_round
        case rel => exact ⟨2, rfl, .inr (.inl ⟨rfl, h⟩)⟩
        case measure => simp [intOf]
    · by_cases h : b = a * 2
      · have HN := hide (rat_of (a := a) (b := b) (k := 2) _ha _hb (by omega) (by omega))
        have e1 : (a * 2 == b) = true := by simp; omega
        clear h
        go_wp2
        go_ret
        exact ⟨ret_int HN.out.symm, rfl⟩
      by_cases h' : a = b * 2
      · have HN := hide (rat_of (a := a) (b := b) (k := 2) _ha _hb (by omega) (by omega))
        have e1 : (a * 2 == b) = false := by simp; omega
        have e2 : (b * 2 == a) = true := by simp; omega
        clear h h'
        go_wp2
        go_ret
        exact ⟨ret_int HN.out.symm, rfl⟩
      · have e1 : (a * 2 == b) = false := by simp; omega
        have e2 : (b * 2 == a) = false := by simp; omega
        go_wp2
        go_round
        case rel => exact ⟨3, rfl, .inr (.inr (.inl ⟨rfl, by omega, by omega, by omega⟩))⟩
        case measure => simp [intOf]
    · by_cases h : b = a * 3
      · have HN := hide (rat_of (a := a) (b := b) (k := 3) _ha _hb (by omega) (by omega))
        have e1 : (a * 3 == b) = true := by simp; omega
        clear h
        go_wp2
        go_ret
        exact ⟨ret_int HN.out.symm, rfl⟩
      by_cases h' : a = b * 3
      · have HN := hide (rat_of (a := a) (b := b) (k := 3) _ha _hb (by omega) (by omega))
        have e1 : (a * 3 == b) = false := by simp; omega
        have e2 : (b * 3 == a) = true := by simp; omega
        clear h h'
        go_wp2
        go_ret
        exact ⟨ret_int HN.out.symm, rfl⟩
      · have e1 : (a * 3 == b) = false := by simp; omega
        have e2 : (b * 3 == a) = false := by simp; omega
        go_wp2
        go_round
        case rel => exact ⟨4, rfl, .inr (.inr (.inr ⟨rfl, by omega, by omega, by omega, by omega, by omega⟩))⟩
        case measure => simp [intOf]
    · have HN := hide (rat_no (a := a) (b := b) h1 h2 h2' h3 h3')
      go_wp2
      go_ret
      exact ⟨ret_int HN.out.symm, rfl⟩
end Go.Proofs.Ytlpoenoijmifdaa
