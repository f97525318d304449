import Derived.Test.YtlpoenoijmifdaaSpr
set_option linter.unusedVariables false
set_option linter.unusedSimpArgs false
namespace Go.Proofs.Ytlpoenoijmifdaa
open Go.RowKit

theorem con_two {xs : List Int} {i : Nat} {a b k : Int} (ha : at_ xs (i + 1) - at_ xs i = a) (hb : at_ xs (i + 2) - at_ xs (i + 1) = b) (hk : rat a b = k) :
    con xs (i, 2) = [(i, if b < a then 6 / k * (1 + k) * min a b * (2 * k - 1) else 6 / k * (1 + k) * min a b * k * (2 - k)), (i + 1, 6 / k * (1 + k) * min a b * (1 + k) * (1 + k)), (i + 2, if b < a then 6 / k * (1 + k) * min a b * k * (2 - k) else 6 / k * (1 + k) * min a b * (2 * k - 1))] := by
  unfold con; simp [ha, hb, hk]

theorem rat_lt {a b k : Int} (hk : rat a b = k) (h0 : k ≠ 0) (h : a ≤ b) (h1 : 1 ≤ a) : b = k * a ∧ (k = 1 ∨ k = 2 ∨ k = 3) := by
  unfold rat at hk; (repeat' split at hk) <;> subst hk <;> omega
theorem rat_gt {a b k : Int} (hk : rat a b = k) (h0 : k ≠ 0) (h : b < a) (h1 : 1 ≤ b) : a = k * b ∧ (k = 2 ∨ k = 3) := by
  unfold rat at hk; (repeat' split at hk) <;> subst hk <;> omega

set_option maxHeartbeats 2000000 in
theorem spreadTwo_11 (S : Nat → Prop) (fn : Nat) (p : Addr) (L : List (Nat × Int)) (I : List (Nat × Int) → World → Prop) (hA : Adder S fn p L I)
    (a : Option Addr) (n cap : Nat) (xs : List Int) (w : World) (h : IsLB w.heap.size w (.slice a n cap) xs) (hp : Pos xs) (i : Nat) (hi : i + 2 < xs.length)
    (hr : rat (at_ xs (i + 1) - at_ xs i) (at_ xs (i + 2) - at_ xs (i + 1)) = 1) (hord : at_ xs (i + 1) - at_ xs i ≤ at_ xs (i + 2) - at_ xs (i + 1))
    (pre : List (Nat × Int)) (hI : I pre w) (hL : ∃ rest, L = pre ++ con xs (i, 2) ++ rest) :
    Calls Try.prog 96 #[.slice a n cap, .int .i64 i, .func (.func fn) #[.pointer (some p)] #[]] w fun e w' => e = .returned (.tuple #[]) ∧ I (pre ++ con xs (i, 2)) w' ∧ Only S w w' := by
  obtain ⟨a', cap', hv, hl1, hl2, h3, h4⟩ := h
  cases hv
  unfold maxLen at hl2
  obtain ⟨b, off, rfl, hbl, hc⟩ := h4 (by intro h; subst h; simp at hi)
  have u := hp.up i (by omega)
  have v := hp.up (i + 1) hi
  have b0 := hp.bd i (by omega)
  have b1 := hp.bd (i + 1) (by omega)
  have b2 := hp.bd (i + 2) hi
  have h9 := hp.hi
  have c0 : w.cell? ⟨b, off + i, none⟩ = some (.int .i64 (at_ xs i)) := hc i (by omega)
  have c1 : w.cell? ⟨b, off + (i + 1), none⟩ = some (.int .i64 (at_ xs (i + 1))) := hc (i + 1) (by omega)
  have c2 : w.cell? ⟨b, off + (i + 2), none⟩ = some (.int .i64 (at_ xs (i + 2))) := hc (i + 2) hi
  have hcon := con_two (xs := xs) (i := i) rfl rfl hr
  obtain ⟨x, hx⟩ : ∃ x, at_ xs i = x := ⟨_, rfl⟩
  obtain ⟨y, hy⟩ : ∃ x, at_ xs (i + 1) = x := ⟨_, rfl⟩
  obtain ⟨z, hz⟩ : ∃ x, at_ xs (i + 2) = x := ⟨_, rfl⟩
  rw [show i + 1 + 1 = i + 2 from rfl, hz, hy] at v
  rw [hx, hy, hz] at hr hcon hord
  rw [hx] at c0 u b0
  rw [hy] at c1 u b1
  rw [hz] at c2 b2
  rw [if_neg (show ¬ (z - y < y - x) by omega), if_neg (show ¬ (z - y < y - x) by omega), Int.min_eq_left hord] at hcon
  have hcon2 : con xs (i, 2) = [(i, 12 * (y - x)), (i + 1, 48 * (y - x)), (i + 2, 12 * (y - x))] := by
    rw [hcon]; simp only [List.cons.injEq, Prod.mk.injEq, true_and, and_true]; refine ⟨?_, ?_, ?_⟩ <;> omega
  rw [hcon2] at hL ⊢
  clear hc h4 h3 hcon hcon2 hp hx hy hz
  obtain ⟨b0a, b0b⟩ := b0
  obtain ⟨b1a, b1b⟩ := b1
  obtain ⟨b2a, b2b⟩ := b2
  have hl3 : (i : Int) + 1 < xs.length := by omega
  have hl4 : (i : Int) + 2 < xs.length := by omega
  obtain ⟨rest, hL⟩ := hL
  have HL := hide hL; clear hL
  have hrun := hA.run
  go_enter Try.func96, Try.ntmps96
  go_wp2
  go_quiet (fail)
  go_wp2_with (go_at_call 85; refine (ratio_w _ _ _ (by omega) (by omega) (by omega) (by omega)).mono ?_; rintro e w' ⟨rfl, rfl⟩)
  refine (hA.step pre i _ _ _ rfl (hA.keep _ _ _ hI (by repeat (first | exact Below.refl _ _ | assumption | refine Below.alloc ?_ (by first | omega | (simp; omega) | simp) _ | refine Below.setCell ?_ (by first | omega | (simp; omega) | simp) _ | refine below_drewN ?_ _ | refine Below.drew ?_ | refine back ?_ (by assumption)))) ⟨(i + 1, 48 * (y - x)) :: (i + 2, 12 * (y - x)) :: rest, by rw [HL.out]; simp; try omega⟩).mono ?_
  rintro e w1 ⟨rfl, hI1, ho1⟩
  go_wp2_with fail
  refine (hA.step _ (i + 1) _ _ _ (by omega) hI1 ⟨(i + 2, 12 * (y - x)) :: rest, by rw [HL.out]; simp; try omega⟩).mono ?_
  rintro e w2 ⟨rfl, hI2, ho2⟩
  go_wp2_with fail
  refine (hA.step _ (i + 2) _ _ _ (by omega) hI2 ⟨rest, by rw [HL.out]; simp; try omega⟩).mono ?_
  rintro e w3 ⟨rfl, hI3, ho3⟩
  go_wp2_with fail
  go_end0
  refine ⟨rfl, ?_, ((((Only.refl S w).drewN _).trans ho1).trans ho2).trans ho3⟩
  have e : ∀ q1 q2 q3 : Int, q1 = 12 * (y - x) → q2 = 48 * (y - x) → q3 = 12 * (y - x) → ((pre ++ [(i, q1)]) ++ [(i + 1, q2)]) ++ [(i + 2, q3)] = pre ++ [(i, 12 * (y - x)), (i + 1, 48 * (y - x)), (i + 2, 12 * (y - x))] := by
    intro q1 q2 q3 h1 h2 h3; subst h1; subst h2; subst h3; simp
  rw [e _ _ _ (by omega) (by omega) (by omega)] at hI3
  exact hI3

set_option maxHeartbeats 2000000 in
theorem spreadTwo_2l (S : Nat → Prop) (fn : Nat) (p : Addr) (L : List (Nat × Int)) (I : List (Nat × Int) → World → Prop) (hA : Adder S fn p L I)
    (a : Option Addr) (n cap : Nat) (xs : List Int) (w : World) (h : IsLB w.heap.size w (.slice a n cap) xs) (hp : Pos xs) (i : Nat) (hi : i + 2 < xs.length)
    (hr : rat (at_ xs (i + 1) - at_ xs i) (at_ xs (i + 2) - at_ xs (i + 1)) = 2) (hord : at_ xs (i + 1) - at_ xs i ≤ at_ xs (i + 2) - at_ xs (i + 1))
    (pre : List (Nat × Int)) (hI : I pre w) (hL : ∃ rest, L = pre ++ con xs (i, 2) ++ rest) :
    Calls Try.prog 96 #[.slice a n cap, .int .i64 i, .func (.func fn) #[.pointer (some p)] #[]] w fun e w' => e = .returned (.tuple #[]) ∧ I (pre ++ con xs (i, 2)) w' ∧ Only S w w' := by
  obtain ⟨a', cap', hv, hl1, hl2, h3, h4⟩ := h
  cases hv
  unfold maxLen at hl2
  obtain ⟨b, off, rfl, hbl, hc⟩ := h4 (by intro h; subst h; simp at hi)
  have u := hp.up i (by omega)
  have v := hp.up (i + 1) hi
  have b0 := hp.bd i (by omega)
  have b1 := hp.bd (i + 1) (by omega)
  have b2 := hp.bd (i + 2) hi
  have h9 := hp.hi
  have c0 : w.cell? ⟨b, off + i, none⟩ = some (.int .i64 (at_ xs i)) := hc i (by omega)
  have c1 : w.cell? ⟨b, off + (i + 1), none⟩ = some (.int .i64 (at_ xs (i + 1))) := hc (i + 1) (by omega)
  have c2 : w.cell? ⟨b, off + (i + 2), none⟩ = some (.int .i64 (at_ xs (i + 2))) := hc (i + 2) hi
  have hcon := con_two (xs := xs) (i := i) rfl rfl hr
  obtain ⟨x, hx⟩ : ∃ x, at_ xs i = x := ⟨_, rfl⟩
  obtain ⟨y, hy⟩ : ∃ x, at_ xs (i + 1) = x := ⟨_, rfl⟩
  obtain ⟨z, hz⟩ : ∃ x, at_ xs (i + 2) = x := ⟨_, rfl⟩
  rw [show i + 1 + 1 = i + 2 from rfl, hz, hy] at v
  rw [hx, hy, hz] at hr hcon hord
  rw [hx] at c0 u b0
  rw [hy] at c1 u b1
  rw [hz] at c2 b2
  rw [if_neg (show ¬ (z - y < y - x) by omega), if_neg (show ¬ (z - y < y - x) by omega), Int.min_eq_left hord] at hcon
  have hcon2 : con xs (i, 2) = [(i, 0 * (y - x)), (i + 1, 81 * (y - x)), (i + 2, 27 * (y - x))] := by
    rw [hcon]; simp only [List.cons.injEq, Prod.mk.injEq, true_and, and_true]; refine ⟨?_, ?_, ?_⟩ <;> omega
  rw [hcon2] at hL ⊢
  clear hc h4 h3 hcon hcon2 hp hx hy hz
  obtain ⟨b0a, b0b⟩ := b0
  obtain ⟨b1a, b1b⟩ := b1
  obtain ⟨b2a, b2b⟩ := b2
  have hl3 : (i : Int) + 1 < xs.length := by omega
  have hl4 : (i : Int) + 2 < xs.length := by omega
  obtain ⟨rest, hL⟩ := hL
  have HL := hide hL; clear hL
  have hrun := hA.run
  go_enter Try.func96, Try.ntmps96
  go_wp2
  go_quiet (fail)
  go_wp2_with (go_at_call 85; refine (ratio_w _ _ _ (by omega) (by omega) (by omega) (by omega)).mono ?_; rintro e w' ⟨rfl, rfl⟩)
  refine (hA.step pre i _ _ _ rfl (hA.keep _ _ _ hI (by repeat (first | exact Below.refl _ _ | assumption | refine Below.alloc ?_ (by first | omega | (simp; omega) | simp) _ | refine Below.setCell ?_ (by first | omega | (simp; omega) | simp) _ | refine below_drewN ?_ _ | refine Below.drew ?_ | refine back ?_ (by assumption)))) ⟨(i + 1, 81 * (y - x)) :: (i + 2, 27 * (y - x)) :: rest, by rw [HL.out]; simp; try omega⟩).mono ?_
  rintro e w1 ⟨rfl, hI1, ho1⟩
  go_wp2_with fail
  refine (hA.step _ (i + 1) _ _ _ (by omega) hI1 ⟨(i + 2, 27 * (y - x)) :: rest, by rw [HL.out]; simp; try omega⟩).mono ?_
  rintro e w2 ⟨rfl, hI2, ho2⟩
  go_wp2_with fail
  refine (hA.step _ (i + 2) _ _ _ (by omega) hI2 ⟨rest, by rw [HL.out]; simp; try omega⟩).mono ?_
  rintro e w3 ⟨rfl, hI3, ho3⟩
  go_wp2_with fail
  go_end0
  refine ⟨rfl, ?_, ((((Only.refl S w).drewN _).trans ho1).trans ho2).trans ho3⟩
  have e : ∀ q1 q2 q3 : Int, q1 = 0 * (y - x) → q2 = 81 * (y - x) → q3 = 27 * (y - x) → ((pre ++ [(i, q1)]) ++ [(i + 1, q2)]) ++ [(i + 2, q3)] = pre ++ [(i, 0 * (y - x)), (i + 1, 81 * (y - x)), (i + 2, 27 * (y - x))] := by
    intro q1 q2 q3 h1 h2 h3; subst h1; subst h2; subst h3; simp
  rw [e _ _ _ (by omega) (by omega) (by omega)] at hI3
  exact hI3

set_option maxHeartbeats 2000000 in
theorem spreadTwo_2g (S : Nat → Prop) (fn : Nat) (p : Addr) (L : List (Nat × Int)) (I : List (Nat × Int) → World → Prop) (hA : Adder S fn p L I)
    (a : Option Addr) (n cap : Nat) (xs : List Int) (w : World) (h : IsLB w.heap.size w (.slice a n cap) xs) (hp : Pos xs) (i : Nat) (hi : i + 2 < xs.length)
    (hr : rat (at_ xs (i + 1) - at_ xs i) (at_ xs (i + 2) - at_ xs (i + 1)) = 2) (hord : at_ xs (i + 2) - at_ xs (i + 1) < at_ xs (i + 1) - at_ xs i)
    (pre : List (Nat × Int)) (hI : I pre w) (hL : ∃ rest, L = pre ++ con xs (i, 2) ++ rest) :
    Calls Try.prog 96 #[.slice a n cap, .int .i64 i, .func (.func fn) #[.pointer (some p)] #[]] w fun e w' => e = .returned (.tuple #[]) ∧ I (pre ++ con xs (i, 2)) w' ∧ Only S w w' := by
  obtain ⟨a', cap', hv, hl1, hl2, h3, h4⟩ := h
  cases hv
  unfold maxLen at hl2
  obtain ⟨b, off, rfl, hbl, hc⟩ := h4 (by intro h; subst h; simp at hi)
  have u := hp.up i (by omega)
  have v := hp.up (i + 1) hi
  have b0 := hp.bd i (by omega)
  have b1 := hp.bd (i + 1) (by omega)
  have b2 := hp.bd (i + 2) hi
  have h9 := hp.hi
  have c0 : w.cell? ⟨b, off + i, none⟩ = some (.int .i64 (at_ xs i)) := hc i (by omega)
  have c1 : w.cell? ⟨b, off + (i + 1), none⟩ = some (.int .i64 (at_ xs (i + 1))) := hc (i + 1) (by omega)
  have c2 : w.cell? ⟨b, off + (i + 2), none⟩ = some (.int .i64 (at_ xs (i + 2))) := hc (i + 2) hi
  have hcon := con_two (xs := xs) (i := i) rfl rfl hr
  obtain ⟨x, hx⟩ : ∃ x, at_ xs i = x := ⟨_, rfl⟩
  obtain ⟨y, hy⟩ : ∃ x, at_ xs (i + 1) = x := ⟨_, rfl⟩
  obtain ⟨z, hz⟩ : ∃ x, at_ xs (i + 2) = x := ⟨_, rfl⟩
  rw [show i + 1 + 1 = i + 2 from rfl, hz, hy] at v
  rw [hx, hy, hz] at hr hcon hord
  rw [hx] at c0 u b0
  rw [hy] at c1 u b1
  rw [hz] at c2 b2
  rw [if_pos hord, if_pos hord, Int.min_eq_right (show z - y ≤ y - x by omega)] at hcon
  have hcon2 : con xs (i, 2) = [(i, 27 * (z - y)), (i + 1, 81 * (z - y)), (i + 2, 0 * (z - y))] := by
    rw [hcon]; simp only [List.cons.injEq, Prod.mk.injEq, true_and, and_true]; refine ⟨?_, ?_, ?_⟩ <;> omega
  rw [hcon2] at hL ⊢
  clear hc h4 h3 hcon hcon2 hp hx hy hz
  obtain ⟨b0a, b0b⟩ := b0
  obtain ⟨b1a, b1b⟩ := b1
  obtain ⟨b2a, b2b⟩ := b2
  have hl3 : (i : Int) + 1 < xs.length := by omega
  have hl4 : (i : Int) + 2 < xs.length := by omega
  obtain ⟨rest, hL⟩ := hL
  have HL := hide hL; clear hL
  have hrun := hA.run
  go_enter Try.func96, Try.ntmps96
  go_wp2
  go_quiet (fail)
  go_wp2_with (go_at_call 85; refine (ratio_w _ _ _ (by omega) (by omega) (by omega) (by omega)).mono ?_; rintro e w' ⟨rfl, rfl⟩)
  refine (hA.step pre i _ _ _ rfl (hA.keep _ _ _ hI (by repeat (first | exact Below.refl _ _ | assumption | refine Below.alloc ?_ (by first | omega | (simp; omega) | simp) _ | refine Below.setCell ?_ (by first | omega | (simp; omega) | simp) _ | refine below_drewN ?_ _ | refine Below.drew ?_ | refine back ?_ (by assumption)))) ⟨(i + 1, 81 * (z - y)) :: (i + 2, 0 * (z - y)) :: rest, by rw [HL.out]; simp; try omega⟩).mono ?_
  rintro e w1 ⟨rfl, hI1, ho1⟩
  go_wp2_with fail
  refine (hA.step _ (i + 1) _ _ _ (by omega) hI1 ⟨(i + 2, 0 * (z - y)) :: rest, by rw [HL.out]; simp; try omega⟩).mono ?_
  rintro e w2 ⟨rfl, hI2, ho2⟩
  go_wp2_with fail
  refine (hA.step _ (i + 2) _ _ _ (by omega) hI2 ⟨rest, by rw [HL.out]; simp; try omega⟩).mono ?_
  rintro e w3 ⟨rfl, hI3, ho3⟩
  go_wp2_with fail
  go_end0
  refine ⟨rfl, ?_, ((((Only.refl S w).drewN _).trans ho1).trans ho2).trans ho3⟩
  have e : ∀ q1 q2 q3 : Int, q1 = 27 * (z - y) → q2 = 81 * (z - y) → q3 = 0 * (z - y) → ((pre ++ [(i, q1)]) ++ [(i + 1, q2)]) ++ [(i + 2, q3)] = pre ++ [(i, 27 * (z - y)), (i + 1, 81 * (z - y)), (i + 2, 0 * (z - y))] := by
    intro q1 q2 q3 h1 h2 h3; subst h1; subst h2; subst h3; simp
  rw [e _ _ _ (by omega) (by omega) (by omega)] at hI3
  exact hI3

set_option maxHeartbeats 2000000 in
theorem spreadTwo_3l (S : Nat → Prop) (fn : Nat) (p : Addr) (L : List (Nat × Int)) (I : List (Nat × Int) → World → Prop) (hA : Adder S fn p L I)
    (a : Option Addr) (n cap : Nat) (xs : List Int) (w : World) (h : IsLB w.heap.size w (.slice a n cap) xs) (hp : Pos xs) (i : Nat) (hi : i + 2 < xs.length)
    (hr : rat (at_ xs (i + 1) - at_ xs i) (at_ xs (i + 2) - at_ xs (i + 1)) = 3) (hord : at_ xs (i + 1) - at_ xs i ≤ at_ xs (i + 2) - at_ xs (i + 1))
    (pre : List (Nat × Int)) (hI : I pre w) (hL : ∃ rest, L = pre ++ con xs (i, 2) ++ rest) :
    Calls Try.prog 96 #[.slice a n cap, .int .i64 i, .func (.func fn) #[.pointer (some p)] #[]] w fun e w' => e = .returned (.tuple #[]) ∧ I (pre ++ con xs (i, 2)) w' ∧ Only S w w' := by
  obtain ⟨a', cap', hv, hl1, hl2, h3, h4⟩ := h
  cases hv
  unfold maxLen at hl2
  obtain ⟨b, off, rfl, hbl, hc⟩ := h4 (by intro h; subst h; simp at hi)
  have u := hp.up i (by omega)
  have v := hp.up (i + 1) hi
  have b0 := hp.bd i (by omega)
  have b1 := hp.bd (i + 1) (by omega)
  have b2 := hp.bd (i + 2) hi
  have h9 := hp.hi
  have c0 : w.cell? ⟨b, off + i, none⟩ = some (.int .i64 (at_ xs i)) := hc i (by omega)
  have c1 : w.cell? ⟨b, off + (i + 1), none⟩ = some (.int .i64 (at_ xs (i + 1))) := hc (i + 1) (by omega)
  have c2 : w.cell? ⟨b, off + (i + 2), none⟩ = some (.int .i64 (at_ xs (i + 2))) := hc (i + 2) hi
  have hcon := con_two (xs := xs) (i := i) rfl rfl hr
  obtain ⟨x, hx⟩ : ∃ x, at_ xs i = x := ⟨_, rfl⟩
  obtain ⟨y, hy⟩ : ∃ x, at_ xs (i + 1) = x := ⟨_, rfl⟩
  obtain ⟨z, hz⟩ : ∃ x, at_ xs (i + 2) = x := ⟨_, rfl⟩
  rw [show i + 1 + 1 = i + 2 from rfl, hz, hy] at v
  rw [hx, hy, hz] at hr hcon hord
  rw [hx] at c0 u b0
  rw [hy] at c1 u b1
  rw [hz] at c2 b2
  rw [if_neg (show ¬ (z - y < y - x) by omega), if_neg (show ¬ (z - y < y - x) by omega), Int.min_eq_left hord] at hcon
  have hcon2 : con xs (i, 2) = [(i, -24 * (y - x)), (i + 1, 128 * (y - x)), (i + 2, 40 * (y - x))] := by
    rw [hcon]; simp only [List.cons.injEq, Prod.mk.injEq, true_and, and_true]; refine ⟨?_, ?_, ?_⟩ <;> omega
  rw [hcon2] at hL ⊢
  clear hc h4 h3 hcon hcon2 hp hx hy hz
  obtain ⟨b0a, b0b⟩ := b0
  obtain ⟨b1a, b1b⟩ := b1
  obtain ⟨b2a, b2b⟩ := b2
  have hl3 : (i : Int) + 1 < xs.length := by omega
  have hl4 : (i : Int) + 2 < xs.length := by omega
  obtain ⟨rest, hL⟩ := hL
  have HL := hide hL; clear hL
  have hrun := hA.run
  go_enter Try.func96, Try.ntmps96
  go_wp2
  go_quiet (fail)
  go_wp2_with (go_at_call 85; refine (ratio_w _ _ _ (by omega) (by omega) (by omega) (by omega)).mono ?_; rintro e w' ⟨rfl, rfl⟩)
  refine (hA.step pre i _ _ _ rfl (hA.keep _ _ _ hI (by repeat (first | exact Below.refl _ _ | assumption | refine Below.alloc ?_ (by first | omega | (simp; omega) | simp) _ | refine Below.setCell ?_ (by first | omega | (simp; omega) | simp) _ | refine below_drewN ?_ _ | refine Below.drew ?_ | refine back ?_ (by assumption)))) ⟨(i + 1, 128 * (y - x)) :: (i + 2, 40 * (y - x)) :: rest, by rw [HL.out]; simp; try omega⟩).mono ?_
  rintro e w1 ⟨rfl, hI1, ho1⟩
  go_wp2_with fail
  refine (hA.step _ (i + 1) _ _ _ (by omega) hI1 ⟨(i + 2, 40 * (y - x)) :: rest, by rw [HL.out]; simp; try omega⟩).mono ?_
  rintro e w2 ⟨rfl, hI2, ho2⟩
  go_wp2_with fail
  refine (hA.step _ (i + 2) _ _ _ (by omega) hI2 ⟨rest, by rw [HL.out]; simp; try omega⟩).mono ?_
  rintro e w3 ⟨rfl, hI3, ho3⟩
  go_wp2_with fail
  go_end0
  refine ⟨rfl, ?_, ((((Only.refl S w).drewN _).trans ho1).trans ho2).trans ho3⟩
  have e : ∀ q1 q2 q3 : Int, q1 = -24 * (y - x) → q2 = 128 * (y - x) → q3 = 40 * (y - x) → ((pre ++ [(i, q1)]) ++ [(i + 1, q2)]) ++ [(i + 2, q3)] = pre ++ [(i, -24 * (y - x)), (i + 1, 128 * (y - x)), (i + 2, 40 * (y - x))] := by
    intro q1 q2 q3 h1 h2 h3; subst h1; subst h2; subst h3; simp
  rw [e _ _ _ (by omega) (by omega) (by omega)] at hI3
  exact hI3

set_option maxHeartbeats 2000000 in
theorem spreadTwo_3g (S : Nat → Prop) (fn : Nat) (p : Addr) (L : List (Nat × Int)) (I : List (Nat × Int) → World → Prop) (hA : Adder S fn p L I)
    (a : Option Addr) (n cap : Nat) (xs : List Int) (w : World) (h : IsLB w.heap.size w (.slice a n cap) xs) (hp : Pos xs) (i : Nat) (hi : i + 2 < xs.length)
    (hr : rat (at_ xs (i + 1) - at_ xs i) (at_ xs (i + 2) - at_ xs (i + 1)) = 3) (hord : at_ xs (i + 2) - at_ xs (i + 1) < at_ xs (i + 1) - at_ xs i)
    (pre : List (Nat × Int)) (hI : I pre w) (hL : ∃ rest, L = pre ++ con xs (i, 2) ++ rest) :
    Calls Try.prog 96 #[.slice a n cap, .int .i64 i, .func (.func fn) #[.pointer (some p)] #[]] w fun e w' => e = .returned (.tuple #[]) ∧ I (pre ++ con xs (i, 2)) w' ∧ Only S w w' := by
  obtain ⟨a', cap', hv, hl1, hl2, h3, h4⟩ := h
  cases hv
  unfold maxLen at hl2
  obtain ⟨b, off, rfl, hbl, hc⟩ := h4 (by intro h; subst h; simp at hi)
  have u := hp.up i (by omega)
  have v := hp.up (i + 1) hi
  have b0 := hp.bd i (by omega)
  have b1 := hp.bd (i + 1) (by omega)
  have b2 := hp.bd (i + 2) hi
  have h9 := hp.hi
  have c0 : w.cell? ⟨b, off + i, none⟩ = some (.int .i64 (at_ xs i)) := hc i (by omega)
  have c1 : w.cell? ⟨b, off + (i + 1), none⟩ = some (.int .i64 (at_ xs (i + 1))) := hc (i + 1) (by omega)
  have c2 : w.cell? ⟨b, off + (i + 2), none⟩ = some (.int .i64 (at_ xs (i + 2))) := hc (i + 2) hi
  have hcon := con_two (xs := xs) (i := i) rfl rfl hr
  obtain ⟨x, hx⟩ : ∃ x, at_ xs i = x := ⟨_, rfl⟩
  obtain ⟨y, hy⟩ : ∃ x, at_ xs (i + 1) = x := ⟨_, rfl⟩
  obtain ⟨z, hz⟩ : ∃ x, at_ xs (i + 2) = x := ⟨_, rfl⟩
  rw [show i + 1 + 1 = i + 2 from rfl, hz, hy] at v
  rw [hx, hy, hz] at hr hcon hord
  rw [hx] at c0 u b0
  rw [hy] at c1 u b1
  rw [hz] at c2 b2
  rw [if_pos hord, if_pos hord, Int.min_eq_right (show z - y ≤ y - x by omega)] at hcon
  have hcon2 : con xs (i, 2) = [(i, 40 * (z - y)), (i + 1, 128 * (z - y)), (i + 2, -24 * (z - y))] := by
    rw [hcon]; simp only [List.cons.injEq, Prod.mk.injEq, true_and, and_true]; refine ⟨?_, ?_, ?_⟩ <;> omega
  rw [hcon2] at hL ⊢
  clear hc h4 h3 hcon hcon2 hp hx hy hz
  obtain ⟨b0a, b0b⟩ := b0
  obtain ⟨b1a, b1b⟩ := b1
  obtain ⟨b2a, b2b⟩ := b2
  have hl3 : (i : Int) + 1 < xs.length := by omega
  have hl4 : (i : Int) + 2 < xs.length := by omega
  obtain ⟨rest, hL⟩ := hL
  have HL := hide hL; clear hL
  have hrun := hA.run
  go_enter Try.func96, Try.ntmps96
  go_wp2
  go_quiet (fail)
  go_wp2_with (go_at_call 85; refine (ratio_w _ _ _ (by omega) (by omega) (by omega) (by omega)).mono ?_; rintro e w' ⟨rfl, rfl⟩)
  refine (hA.step pre i _ _ _ rfl (hA.keep _ _ _ hI (by repeat (first | exact Below.refl _ _ | assumption | refine Below.alloc ?_ (by first | omega | (simp; omega) | simp) _ | refine Below.setCell ?_ (by first | omega | (simp; omega) | simp) _ | refine below_drewN ?_ _ | refine Below.drew ?_ | refine back ?_ (by assumption)))) ⟨(i + 1, 128 * (z - y)) :: (i + 2, -24 * (z - y)) :: rest, by rw [HL.out]; simp; try omega⟩).mono ?_
  rintro e w1 ⟨rfl, hI1, ho1⟩
  go_wp2_with fail
  refine (hA.step _ (i + 1) _ _ _ (by omega) hI1 ⟨(i + 2, -24 * (z - y)) :: rest, by rw [HL.out]; simp; try omega⟩).mono ?_
  rintro e w2 ⟨rfl, hI2, ho2⟩
  go_wp2_with fail
  refine (hA.step _ (i + 2) _ _ _ (by omega) hI2 ⟨rest, by rw [HL.out]; simp; try omega⟩).mono ?_
  rintro e w3 ⟨rfl, hI3, ho3⟩
  go_wp2_with fail
  go_end0
  refine ⟨rfl, ?_, ((((Only.refl S w).drewN _).trans ho1).trans ho2).trans ho3⟩
  have e : ∀ q1 q2 q3 : Int, q1 = 40 * (z - y) → q2 = 128 * (z - y) → q3 = -24 * (z - y) → ((pre ++ [(i, q1)]) ++ [(i + 1, q2)]) ++ [(i + 2, q3)] = pre ++ [(i, 40 * (z - y)), (i + 1, 128 * (z - y)), (i + 2, -24 * (z - y))] := by
    intro q1 q2 q3 h1 h2 h3; subst h1; subst h2; subst h3; simp
  rw [e _ _ _ (by omega) (by omega) (by omega)] at hI3
  exact hI3

theorem spreadTwo_w (S : Nat → Prop) (fn : Nat) (p : Addr) (L : List (Nat × Int)) (I : List (Nat × Int) → World → Prop) (hA : Adder S fn p L I)
    (a : Option Addr) (n cap : Nat) (xs : List Int) (w : World) (h : IsLB w.heap.size w (.slice a n cap) xs) (hp : Pos xs) (i : Nat) (hi : i + 2 < xs.length)
    (hr : rat (at_ xs (i + 1) - at_ xs i) (at_ xs (i + 2) - at_ xs (i + 1)) ≠ 0)
    (pre : List (Nat × Int)) (hI : I pre w) (hL : ∃ rest, L = pre ++ con xs (i, 2) ++ rest) :
    Calls Try.prog 96 #[.slice a n cap, .int .i64 i, .func (.func fn) #[.pointer (some p)] #[]] w fun e w' => e = .returned (.tuple #[]) ∧ I (pre ++ con xs (i, 2)) w' ∧ Only S w w' := by
  have u := hp.up i (by omega)
  have v := hp.up (i + 1) hi
  have hv2 : at_ xs (i + 1) < at_ xs (i + 2) := v
  by_cases hord : at_ xs (i + 1) - at_ xs i ≤ at_ xs (i + 2) - at_ xs (i + 1)
  · obtain ⟨_, h1 | h2 | h3⟩ := rat_lt rfl hr hord (by omega)
    · exact spreadTwo_11 S fn p L I hA a n cap xs w h hp i hi h1 hord pre hI hL
    · exact spreadTwo_2l S fn p L I hA a n cap xs w h hp i hi h2 hord pre hI hL
    · exact spreadTwo_3l S fn p L I hA a n cap xs w h hp i hi h3 hord pre hI hL
  · obtain ⟨_, h2 | h3⟩ := rat_gt rfl hr (by omega) (by omega)
    · exact spreadTwo_2g S fn p L I hA a n cap xs w h hp i hi h2 (by omega) pre hI hL
    · exact spreadTwo_3g S fn p L I hA a n cap xs w h hp i hi h3 (by omega) pre hI hL
end Go.Proofs.Ytlpoenoijmifdaa
