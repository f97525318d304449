import Derived.Test.YtfbgnnelnpcbiaaDoorZt02
set_option linter.unusedVariables false
set_option linter.unusedSimpArgs false
namespace Go.Proofs.YtfbgnnelnpcbiaaDoor
open Go.RowKit

/-- Of what was there, only the blocks of S may have changed. -/
structure Only (S : Nat → Prop) (w w' : World) : Prop where
  os : w'.os = w.os
  tape : w'.tape = w.tape
  output : w'.output = w.output
  size : w.heap.size ≤ w'.heap.size
  block : ∀ k, k < w.heap.size → ¬ S k → w'.heap[k]? = w.heap[k]?

theorem Only.of_below {S : Nat → Prop} {w w' : World} (h : Below w.heap.size w w') : Only S w w' := ⟨h.os, h.tape, h.output, h.size, fun k hk _ => h.block k hk⟩
theorem Only.refl (S : Nat → Prop) (w : World) : Only S w w := ⟨rfl, rfl, rfl, Nat.le_refl _, fun _ _ _ => rfl⟩
theorem Only.trans {S : Nat → Prop} {a b c : World} (h : Only S a b) (k : Only S b c) : Only S a c :=
  ⟨k.os.trans h.os, k.tape.trans h.tape, k.output.trans h.output, Nat.le_trans h.size k.size, fun i hi hs => (k.block i (Nat.lt_of_lt_of_le hi h.size) hs).trans (h.block i hi hs)⟩
theorem Only.drewN {S : Nat → Prop} {a b : World} (h : Only S a b) (n : Nat) : Only S a (b.drewN n) := ⟨h.os, h.tape, h.output, h.size, h.block⟩
theorem Only.alloc {S : Nat → Prop} {a b : World} (h : Only S a b) (o : Obj) : Only S a (b.alloc o) := h.trans (Only.of_below ((Below.refl _ _).alloc (Nat.le_refl _) _))
theorem Only.below {S : Nat → Prop} {B : Nat} {w w' : World} (h : Only S w w') (hB : B ≤ w.heap.size) (hS : ∀ k, S k → B ≤ k) : Below B w w' :=
  ⟨h.os, h.tape, h.output, h.size, fun k hk => h.block k (by omega) (fun hs => by have := hS k hs; omega)⟩
theorem Only.setCell {S : Nat → Prop} {a b : World} (h : Only S a b) (p : Addr) (u : Value) (hp : S p.block) : Only S a (b.setCell p u) :=
  h.trans ⟨rfl, rfl, rfl, by simp [World.setCell], fun k _ hk => Below.heap_setCell _ _ _ _ (fun e => hk (e ▸ hp))⟩
theorem Only.cell {S : Nat → Prop} {w w' : World} (h : Only S w w') {p : Addr} (hp : p.block < w.heap.size) (hs : ¬ S p.block) : w'.cell? p = w.cell? p := World.cell?_of_block (w := w) (h.block p.block hp hs)

/-- A function value that takes up one weight after the other of the list L; I says what it has taken. -/
structure Adder (S : Nat → Prop) (fn : Nat) (p : Addr) (L : List (Nat × Int)) (I : List (Nat × Int) → World → Prop) : Prop where
  step : ∀ pre (i : Nat) (j x : Int) W, j = i → I pre W → (∃ rest, L = pre ++ (i, x) :: rest) → Calls Tryd.prog fn #[.pointer (some p), .int .i64 j, .int .i64 x] W fun e W' => e = .returned (.tuple #[]) ∧ I (pre ++ [(i, x)]) W' ∧ Only S W W'
  run : ∀ args W, Sem.run Tryd.prog (callFunc fn args) W = .ok (.enter fn args) W
  keep : ∀ pre W W', I pre W → Below W.heap.size W W' → I pre W'

set_option maxHeartbeats 1000000 in
theorem spreadOne_w (S : Nat → Prop) (fn : Nat) (p : Addr) (L : List (Nat × Int)) (I : List (Nat × Int) → World → Prop) (hA : Adder S fn p L I)
    (a : Option Addr) (n cap : Nat) (xs : List Int) (w : World) (h : IsLB w.heap.size w (.slice a n cap) xs) (hp : Pos xs) (i : Nat) (hi : i + 1 < xs.length)
    (pre : List (Nat × Int)) (hI : I pre w) (hL : ∃ rest, L = pre ++ con xs (i, 1) ++ rest) :
    Calls Tryd.prog 62 #[.slice a n cap, .int .i64 i, .func (.func fn) #[.pointer (some p)] #[]] w fun e w' => e = .returned (.tuple #[]) ∧ I (pre ++ con xs (i, 1)) w' ∧ Only S w w' := by
  obtain ⟨a', cap', hv, hl1, hl2, h3, h4⟩ := h
  cases hv
  unfold maxLen at hl2
  obtain ⟨b, off, rfl, hbl, hc⟩ := h4 (by intro h; subst h; simp at hi)
  have u := hp.up i hi
  have b0 := hp.bd i (by omega)
  have b1 := hp.bd (i + 1) hi
  have h9 := hp.hi
  have c0 : w.cell? ⟨b, off + i, none⟩ = some (.int .i64 (at_ xs i)) := hc i (by omega)
  have c1 : w.cell? ⟨b, off + (i + 1), none⟩ = some (.int .i64 (at_ xs (i + 1))) := hc (i + 1) hi
  have hcon : con xs (i, 1) = [(i, 18 * (at_ xs (i + 1) - at_ xs i)), (i + 1, 18 * (at_ xs (i + 1) - at_ xs i))] := by unfold con; simp
  rw [hcon] at hL ⊢
  clear hc h4 h3 hcon hp
  obtain ⟨x, hx⟩ : ∃ x, at_ xs i = x := ⟨_, rfl⟩
  obtain ⟨y, hy⟩ : ∃ x, at_ xs (i + 1) = x := ⟨_, rfl⟩
  rw [hx] at c0 u b0 hL ⊢
  rw [hy] at c1 u b1 hL ⊢
  clear hx hy
  obtain ⟨b0a, b0b⟩ := b0
  obtain ⟨b1a, b1b⟩ := b1
  have hl3 : (i : Int) + 1 < xs.length := by omega
  obtain ⟨rest, hL⟩ := hL
  have HL := hide hL; clear hL
  go_enter Tryd.func62, Tryd.ntmps62
  go_wp2
  go_quiet (fail)
  have hrun := hA.run
  go_wp2_with fail
  refine (hA.step pre i _ _ _ rfl (hA.keep _ _ _ hI (by repeat (first | exact Below.refl _ _ | assumption | refine Below.alloc ?_ (by first | omega | (simp; omega) | simp) _ | refine Below.setCell ?_ (by first | omega | (simp; omega) | simp) _ | refine below_drewN ?_ _ | refine Below.drew ?_ | refine back ?_ (by assumption)))) ⟨(i + 1, 18 * (y - x)) :: rest, by rw [HL.out]; simp⟩).mono ?_
  rintro e w1 ⟨rfl, hI1, ho1⟩
  go_wp2_with fail
  refine (hA.step (pre ++ [(i, 18 * (y - x))]) (i + 1) _ _ _ (by omega) hI1 ⟨rest, by rw [HL.out]; simp⟩).mono ?_
  rintro e w2 ⟨rfl, hI2, ho2⟩
  go_wp2_with fail
  go_end0
  exact ⟨rfl, by simpa using hI2, (((Only.refl S w).drewN _).trans ho1).trans ho2⟩

theorem run_addWeight (args : Array Value) (W : World) : Sem.run Tryd.prog (callFunc 55 args) W = .ok (.enter 55 args) W := by kernel_rfl
theorem run_addProduct (args : Array Value) (W : World) : Sem.run Tryd.prog (callFunc 60 args) W = .ok (.enter 60 args) W := by kernel_rfl
end Go.Proofs.YtfbgnnelnpcbiaaDoor

namespace Go.Proofs.YtfbgnnelnpcbiaaDoor
open Go.RowKit

theorem con_two {xs : List Int} {i : Nat} {a b k : Int} (ha : at_ xs (i + 1) - at_ xs i = a) (hb : at_ xs (i + 2) - at_ xs (i + 1) = b) (hk : rat a b = k) :
    con xs (i, 2) = [(i, if b < a then 6 / k * (1 + k) * min a b * (2 * k - 1) else 6 / k * (1 + k) * min a b * k * (2 - k)), (i + 1, 6 / k * (1 + k) * min a b * (1 + k) * (1 + k)), (i + 2, if b < a then 6 / k * (1 + k) * min a b * k * (2 - k) else 6 / k * (1 + k) * min a b * (2 * k - 1))] := by
  unfold con; simp [ha, hb, hk]

theorem rat_lt {a b k : Int} (hk : rat a b = k) (h0 : k ≠ 0) (h : a ≤ b) (h1 : 1 ≤ a) : b = k * a ∧ (k = 1 ∨ k = 2 ∨ k = 3) := by
  unfold rat at hk; (repeat' split at hk) <;> subst hk <;> omega
theorem rat_gt {a b k : Int} (hk : rat a b = k) (h0 : k ≠ 0) (h : b < a) (h1 : 1 ≤ b) : a = k * b ∧ (k = 2 ∨ k = 3) := by
  unfold rat at hk; (repeat' split at hk) <;> subst hk <;> omega

set_option maxHeartbeats 2000000 in
theorem spreadTwo_11 (S : Nat → Prop) (fn : Nat) (p : Addr) (L : List (Nat × Int)) (I : List (Nat × Int) → World → Prop) (hA : Adder S fn p L I)
    (a : Option Addr) (n cap : Nat) (xs : List Int) (w : World) (h : IsLB w.heap.size w (.slice a n cap) xs) (hp : Pos xs) (i : Nat) (hi : i + 2 < xs.length)
    (hr : rat (at_ xs (i + 1) - at_ xs i) (at_ xs (i + 2) - at_ xs (i + 1)) = 1) (hord : at_ xs (i + 1) - at_ xs i ≤ at_ xs (i + 2) - at_ xs (i + 1))
    (pre : List (Nat × Int)) (hI : I pre w) (hL : ∃ rest, L = pre ++ con xs (i, 2) ++ rest) :
    Calls Tryd.prog 63 #[.slice a n cap, .int .i64 i, .func (.func fn) #[.pointer (some p)] #[]] w fun e w' => e = .returned (.tuple #[]) ∧ I (pre ++ con xs (i, 2)) w' ∧ Only S w w' := by
  obtain ⟨a', cap', hv, hl1, hl2, h3, h4⟩ := h
  cases hv
  unfold maxLen at hl2
  obtain ⟨b, off, rfl, hbl, hc⟩ := h4 (by intro h; subst h; simp at hi)
  have u := hp.up i (by omega)
  have v := hp.up (i + 1) hi
  have b0 := hp.bd i (by omega)
  have b1 := hp.bd (i + 1) (by omega)
  have b2 := hp.bd (i + 2) hi
  have h9 := hp.hi
  have c0 : w.cell? ⟨b, off + i, none⟩ = some (.int .i64 (at_ xs i)) := hc i (by omega)
  have c1 : w.cell? ⟨b, off + (i + 1), none⟩ = some (.int .i64 (at_ xs (i + 1))) := hc (i + 1) (by omega)
  have c2 : w.cell? ⟨b, off + (i + 2), none⟩ = some (.int .i64 (at_ xs (i + 2))) := hc (i + 2) hi
  have hcon := con_two (xs := xs) (i := i) rfl rfl hr
  obtain ⟨x, hx⟩ : ∃ x, at_ xs i = x := ⟨_, rfl⟩
  obtain ⟨y, hy⟩ : ∃ x, at_ xs (i + 1) = x := ⟨_, rfl⟩
  obtain ⟨z, hz⟩ : ∃ x, at_ xs (i + 2) = x := ⟨_, rfl⟩
  rw [show i + 1 + 1 = i + 2 from rfl, hz, hy] at v
  rw [hx, hy, hz] at hr hcon hord
  rw [hx] at c0 u b0
  rw [hy] at c1 u b1
  rw [hz] at c2 b2
  rw [if_neg (show ¬ (z - y < y - x) by omega), if_neg (show ¬ (z - y < y - x) by omega), Int.min_eq_left hord] at hcon
  have hcon2 : con xs (i, 2) = [(i, 12 * (y - x)), (i + 1, 48 * (y - x)), (i + 2, 12 * (y - x))] := by
    rw [hcon]; simp only [List.cons.injEq, Prod.mk.injEq, true_and, and_true]; refine ⟨?_, ?_, ?_⟩ <;> omega
  rw [hcon2] at hL ⊢
  clear hc h4 h3 hcon hcon2 hp hx hy hz
  obtain ⟨b0a, b0b⟩ := b0
  obtain ⟨b1a, b1b⟩ := b1
  obtain ⟨b2a, b2b⟩ := b2
  have hl3 : (i : Int) + 1 < xs.length := by omega
  have hl4 : (i : Int) + 2 < xs.length := by omega
  obtain ⟨rest, hL⟩ := hL
  have HL := hide hL; clear hL
  have hrun := hA.run
  go_enter Tryd.func63, Tryd.ntmps63
  go_wp2
  go_quiet (fail)
  go_wp2_with (go_at_call 66; refine (ratio_w _ _ _ (by omega) (by omega) (by omega) (by omega)).mono ?_; rintro e w' ⟨rfl, rfl⟩)
  refine (hA.step pre i _ _ _ rfl (hA.keep _ _ _ hI (by repeat (first | exact Below.refl _ _ | assumption | refine Below.alloc ?_ (by first | omega | (simp; omega) | simp) _ | refine Below.setCell ?_ (by first | omega | (simp; omega) | simp) _ | refine below_drewN ?_ _ | refine Below.drew ?_ | refine back ?_ (by assumption)))) ⟨(i + 1, 48 * (y - x)) :: (i + 2, 12 * (y - x)) :: rest, by rw [HL.out]; simp; try omega⟩).mono ?_
  rintro e w1 ⟨rfl, hI1, ho1⟩
  go_wp2_with fail
  refine (hA.step _ (i + 1) _ _ _ (by omega) hI1 ⟨(i + 2, 12 * (y - x)) :: rest, by rw [HL.out]; simp; try omega⟩).mono ?_
  rintro e w2 ⟨rfl, hI2, ho2⟩
  go_wp2_with fail
  refine (hA.step _ (i + 2) _ _ _ (by omega) hI2 ⟨rest, by rw [HL.out]; simp; try omega⟩).mono ?_
  rintro e w3 ⟨rfl, hI3, ho3⟩
  go_wp2_with fail
  go_end0
  refine ⟨rfl, ?_, ((((Only.refl S w).drewN _).trans ho1).trans ho2).trans ho3⟩
  have e : ∀ q1 q2 q3 : Int, q1 = 12 * (y - x) → q2 = 48 * (y - x) → q3 = 12 * (y - x) → ((pre ++ [(i, q1)]) ++ [(i + 1, q2)]) ++ [(i + 2, q3)] = pre ++ [(i, 12 * (y - x)), (i + 1, 48 * (y - x)), (i + 2, 12 * (y - x))] := by
    intro q1 q2 q3 h1 h2 h3; subst h1; subst h2; subst h3; simp
  rw [e _ _ _ (by omega) (by omega) (by omega)] at hI3
  exact hI3

set_option maxHeartbeats 2000000 in
theorem spreadTwo_2l (S : Nat → Prop) (fn : Nat) (p : Addr) (L : List (Nat × Int)) (I : List (Nat × Int) → World → Prop) (hA : Adder S fn p L I)
    (a : Option Addr) (n cap : Nat) (xs : List Int) (w : World) (h : IsLB w.heap.size w (.slice a n cap) xs) (hp : Pos xs) (i : Nat) (hi : i + 2 < xs.length)
    (hr : rat (at_ xs (i + 1) - at_ xs i) (at_ xs (i + 2) - at_ xs (i + 1)) = 2) (hord : at_ xs (i + 1) - at_ xs i ≤ at_ xs (i + 2) - at_ xs (i + 1))
    (pre : List (Nat × Int)) (hI : I pre w) (hL : ∃ rest, L = pre ++ con xs (i, 2) ++ rest) :
    Calls Tryd.prog 63 #[.slice a n cap, .int .i64 i, .func (.func fn) #[.pointer (some p)] #[]] w fun e w' => e = .returned (.tuple #[]) ∧ I (pre ++ con xs (i, 2)) w' ∧ Only S w w' := by
  obtain ⟨a', cap', hv, hl1, hl2, h3, h4⟩ := h
  cases hv
  unfold maxLen at hl2
  obtain ⟨b, off, rfl, hbl, hc⟩ := h4 (by intro h; subst h; simp at hi)
  have u := hp.up i (by omega)
  have v := hp.up (i + 1) hi
  have b0 := hp.bd i (by omega)
  have b1 := hp.bd (i + 1) (by omega)
  have b2 := hp.bd (i + 2) hi
  have h9 := hp.hi
  have c0 : w.cell? ⟨b, off + i, none⟩ = some (.int .i64 (at_ xs i)) := hc i (by omega)
  have c1 : w.cell? ⟨b, off + (i + 1), none⟩ = some (.int .i64 (at_ xs (i + 1))) := hc (i + 1) (by omega)
  have c2 : w.cell? ⟨b, off + (i + 2), none⟩ = some (.int .i64 (at_ xs (i + 2))) := hc (i + 2) hi
  have hcon := con_two (xs := xs) (i := i) rfl rfl hr
  obtain ⟨x, hx⟩ : ∃ x, at_ xs i = x := ⟨_, rfl⟩
  obtain ⟨y, hy⟩ : ∃ x, at_ xs (i + 1) = x := ⟨_, rfl⟩
  obtain ⟨z, hz⟩ : ∃ x, at_ xs (i + 2) = x := ⟨_, rfl⟩
  rw [show i + 1 + 1 = i + 2 from rfl, hz, hy] at v
  rw [hx, hy, hz] at hr hcon hord
  rw [hx] at c0 u b0
  rw [hy] at c1 u b1
  rw [hz] at c2 b2
  rw [if_neg (show ¬ (z - y < y - x) by omega), if_neg (show ¬ (z - y < y - x) by omega), Int.min_eq_left hord] at hcon
  have hcon2 : con xs (i, 2) = [(i, 0 * (y - x)), (i + 1, 81 * (y - x)), (i + 2, 27 * (y - x))] := by
    rw [hcon]; simp only [List.cons.injEq, Prod.mk.injEq, true_and, and_true]; refine ⟨?_, ?_, ?_⟩ <;> omega
  rw [hcon2] at hL ⊢
  clear hc h4 h3 hcon hcon2 hp hx hy hz
  obtain ⟨b0a, b0b⟩ := b0
  obtain ⟨b1a, b1b⟩ := b1
  obtain ⟨b2a, b2b⟩ := b2
  have hl3 : (i : Int) + 1 < xs.length := by omega
  have hl4 : (i : Int) + 2 < xs.length := by omega
  obtain ⟨rest, hL⟩ := hL
  have HL := hide hL; clear hL
  have hrun := hA.run
  go_enter Tryd.func63, Tryd.ntmps63
  go_wp2
  go_quiet (fail)
  go_wp2_with (go_at_call 66; refine (ratio_w _ _ _ (by omega) (by omega) (by omega) (by omega)).mono ?_; rintro e w' ⟨rfl, rfl⟩)
  refine (hA.step pre i _ _ _ rfl (hA.keep _ _ _ hI (by repeat (first | exact Below.refl _ _ | assumption | refine Below.alloc ?_ (by first | omega | (simp; omega) | simp) _ | refine Below.setCell ?_ (by first | omega | (simp; omega) | simp) _ | refine below_drewN ?_ _ | refine Below.drew ?_ | refine back ?_ (by assumption)))) ⟨(i + 1, 81 * (y - x)) :: (i + 2, 27 * (y - x)) :: rest, by rw [HL.out]; simp; try omega⟩).mono ?_
  rintro e w1 ⟨rfl, hI1, ho1⟩
  go_wp2_with fail
  refine (hA.step _ (i + 1) _ _ _ (by omega) hI1 ⟨(i + 2, 27 * (y - x)) :: rest, by rw [HL.out]; simp; try omega⟩).mono ?_
  rintro e w2 ⟨rfl, hI2, ho2⟩
  go_wp2_with fail
  refine (hA.step _ (i + 2) _ _ _ (by omega) hI2 ⟨rest, by rw [HL.out]; simp; try omega⟩).mono ?_
  rintro e w3 ⟨rfl, hI3, ho3⟩
  go_wp2_with fail
  go_end0
  refine ⟨rfl, ?_, ((((Only.refl S w).drewN _).trans ho1).trans ho2).trans ho3⟩
  have e : ∀ q1 q2 q3 : Int, q1 = 0 * (y - x) → q2 = 81 * (y - x) → q3 = 27 * (y - x) → ((pre ++ [(i, q1)]) ++ [(i + 1, q2)]) ++ [(i + 2, q3)] = pre ++ [(i, 0 * (y - x)), (i + 1, 81 * (y - x)), (i + 2, 27 * (y - x))] := by
    intro q1 q2 q3 h1 h2 h3; subst h1; subst h2; subst h3; simp
  rw [e _ _ _ (by omega) (by omega) (by omega)] at hI3
  exact hI3

set_option maxHeartbeats 2000000 in
theorem spreadTwo_2g (S : Nat → Prop) (fn : Nat) (p : Addr) (L : List (Nat × Int)) (I : List (Nat × Int) → World → Prop) (hA : Adder S fn p L I)
    (a : Option Addr) (n cap : Nat) (xs : List Int) (w : World) (h : IsLB w.heap.size w (.slice a n cap) xs) (hp : Pos xs) (i : Nat) (hi : i + 2 < xs.length)
    (hr : rat (at_ xs (i + 1) - at_ xs i) (at_ xs (i + 2) - at_ xs (i + 1)) = 2) (hord : at_ xs (i + 2) - at_ xs (i + 1) < at_ xs (i + 1) - at_ xs i)
    (pre : List (Nat × Int)) (hI : I pre w) (hL : ∃ rest, L = pre ++ con xs (i, 2) ++ rest) :
    Calls Tryd.prog 63 #[.slice a n cap, .int .i64 i, .func (.func fn) #[.pointer (some p)] #[]] w fun e w' => e = .returned (.tuple #[]) ∧ I (pre ++ con xs (i, 2)) w' ∧ Only S w w' := by
  obtain ⟨a', cap', hv, hl1, hl2, h3, h4⟩ := h
  cases hv
  unfold maxLen at hl2
  obtain ⟨b, off, rfl, hbl, hc⟩ := h4 (by intro h; subst h; simp at hi)
  have u := hp.up i (by omega)
  have v := hp.up (i + 1) hi
  have b0 := hp.bd i (by omega)
  have b1 := hp.bd (i + 1) (by omega)
  have b2 := hp.bd (i + 2) hi
  have h9 := hp.hi
  have c0 : w.cell? ⟨b, off + i, none⟩ = some (.int .i64 (at_ xs i)) := hc i (by omega)
  have c1 : w.cell? ⟨b, off + (i + 1), none⟩ = some (.int .i64 (at_ xs (i + 1))) := hc (i + 1) (by omega)
  have c2 : w.cell? ⟨b, off + (i + 2), none⟩ = some (.int .i64 (at_ xs (i + 2))) := hc (i + 2) hi
  have hcon := con_two (xs := xs) (i := i) rfl rfl hr
  obtain ⟨x, hx⟩ : ∃ x, at_ xs i = x := ⟨_, rfl⟩
  obtain ⟨y, hy⟩ : ∃ x, at_ xs (i + 1) = x := ⟨_, rfl⟩
  obtain ⟨z, hz⟩ : ∃ x, at_ xs (i + 2) = x := ⟨_, rfl⟩
  rw [show i + 1 + 1 = i + 2 from rfl, hz, hy] at v
  rw [hx, hy, hz] at hr hcon hord
  rw [hx] at c0 u b0
  rw [hy] at c1 u b1
  rw [hz] at c2 b2
  rw [if_pos hord, if_pos hord, Int.min_eq_right (show z - y ≤ y - x by omega)] at hcon
  have hcon2 : con xs (i, 2) = [(i, 27 * (z - y)), (i + 1, 81 * (z - y)), (i + 2, 0 * (z - y))] := by
    rw [hcon]; simp only [List.cons.injEq, Prod.mk.injEq, true_and, and_true]; refine ⟨?_, ?_, ?_⟩ <;> omega
  rw [hcon2] at hL ⊢
  clear hc h4 h3 hcon hcon2 hp hx hy hz
  obtain ⟨b0a, b0b⟩ := b0
  obtain ⟨b1a, b1b⟩ := b1
  obtain ⟨b2a, b2b⟩ := b2
  have hl3 : (i : Int) + 1 < xs.length := by omega
  have hl4 : (i : Int) + 2 < xs.length := by omega
  obtain ⟨rest, hL⟩ := hL
  have HL := hide hL; clear hL
  have hrun := hA.run
  go_enter Tryd.func63, Tryd.ntmps63
  go_wp2
  go_quiet (fail)
  go_wp2_with (go_at_call 66; refine (ratio_w _ _ _ (by omega) (by omega) (by omega) (by omega)).mono ?_; rintro e w' ⟨rfl, rfl⟩)
  refine (hA.step pre i _ _ _ rfl (hA.keep _ _ _ hI (by repeat (first | exact Below.refl _ _ | assumption | refine Below.alloc ?_ (by first | omega | (simp; omega) | simp) _ | refine Below.setCell ?_ (by first | omega | (simp; omega) | simp) _ | refine below_drewN ?_ _ | refine Below.drew ?_ | refine back ?_ (by assumption)))) ⟨(i + 1, 81 * (z - y)) :: (i + 2, 0 * (z - y)) :: rest, by rw [HL.out]; simp; try omega⟩).mono ?_
  rintro e w1 ⟨rfl, hI1, ho1⟩
  go_wp2_with fail
  refine (hA.step _ (i + 1) _ _ _ (by omega) hI1 ⟨(i + 2, 0 * (z - y)) :: rest, by rw [HL.out]; simp; try omega⟩).mono ?_
  rintro e w2 ⟨rfl, hI2, ho2⟩
  go_wp2_with fail
  refine (hA.step _ (i + 2) _ _ _ (by omega) hI2 ⟨rest, by rw [HL.out]; simp; try omega⟩).mono ?_
  rintro e w3 ⟨rfl, hI3, ho3⟩
  go_wp2_with fail
  go_end0
  refine ⟨rfl, ?_, ((((Only.refl S w).drewN _).trans ho1).trans ho2).trans ho3⟩
  have e : ∀ q1 q2 q3 : Int, q1 = 27 * (z - y) → q2 = 81 * (z - y) → q3 = 0 * (z - y) → ((pre ++ [(i, q1)]) ++ [(i + 1, q2)]) ++ [(i + 2, q3)] = pre ++ [(i, 27 * (z - y)), (i + 1, 81 * (z - y)), (i + 2, 0 * (z - y))] := by
    intro q1 q2 q3 h1 h2 h3; subst h1; subst h2; subst h3; simp
  rw [e _ _ _ (by omega) (by omega) (by omega)] at hI3
  exact hI3

set_option maxHeartbeats 2000000 in
theorem spreadTwo_3l (S : Nat → Prop) (fn : Nat) (p : Addr) (L : List (Nat × Int)) (I : List (Nat × Int) → World → Prop) (hA : Adder S fn p L I)
    (a : Option Addr) (n cap : Nat) (xs : List Int) (w : World) (h : IsLB w.heap.size w (.slice a n cap) xs) (hp : Pos xs) (i : Nat) (hi : i + 2 < xs.length)
    (hr : rat (at_ xs (i + 1) - at_ xs i) (at_ xs (i + 2) - at_ xs (i + 1)) = 3) (hord : at_ xs (i + 1) - at_ xs i ≤ at_ xs (i + 2) - at_ xs (i + 1))
    (pre : List (Nat × Int)) (hI : I pre w) (hL : ∃ rest, L = pre ++ con xs (i, 2) ++ rest) :
    Calls Tryd.prog 63 #[.slice a n cap, .int .i64 i, .func (.func fn) #[.pointer (some p)] #[]] w fun e w' => e = .returned (.tuple #[]) ∧ I (pre ++ con xs (i, 2)) w' ∧ Only S w w' := by
  obtain ⟨a', cap', hv, hl1, hl2, h3, h4⟩ := h
  cases hv
  unfold maxLen at hl2
  obtain ⟨b, off, rfl, hbl, hc⟩ := h4 (by intro h; subst h; simp at hi)
  have u := hp.up i (by omega)
  have v := hp.up (i + 1) hi
  have b0 := hp.bd i (by omega)
  have b1 := hp.bd (i + 1) (by omega)
  have b2 := hp.bd (i + 2) hi
  have h9 := hp.hi
  have c0 : w.cell? ⟨b, off + i, none⟩ = some (.int .i64 (at_ xs i)) := hc i (by omega)
  have c1 : w.cell? ⟨b, off + (i + 1), none⟩ = some (.int .i64 (at_ xs (i + 1))) := hc (i + 1) (by omega)
  have c2 : w.cell? ⟨b, off + (i + 2), none⟩ = some (.int .i64 (at_ xs (i + 2))) := hc (i + 2) hi
  have hcon := con_two (xs := xs) (i := i) rfl rfl hr
  obtain ⟨x, hx⟩ : ∃ x, at_ xs i = x := ⟨_, rfl⟩
  obtain ⟨y, hy⟩ : ∃ x, at_ xs (i + 1) = x := ⟨_, rfl⟩
  obtain ⟨z, hz⟩ : ∃ x, at_ xs (i + 2) = x := ⟨_, rfl⟩
  rw [show i + 1 + 1 = i + 2 from rfl, hz, hy] at v
  rw [hx, hy, hz] at hr hcon hord
  rw [hx] at c0 u b0
  rw [hy] at c1 u b1
  rw [hz] at c2 b2
  rw [if_neg (show ¬ (z - y < y - x) by omega), if_neg (show ¬ (z - y < y - x) by omega), Int.min_eq_left hord] at hcon
  have hcon2 : con xs (i, 2) = [(i, -24 * (y - x)), (i + 1, 128 * (y - x)), (i + 2, 40 * (y - x))] := by
    rw [hcon]; simp only [List.cons.injEq, Prod.mk.injEq, true_and, and_true]; refine ⟨?_, ?_, ?_⟩ <;> omega
  rw [hcon2] at hL ⊢
  clear hc h4 h3 hcon hcon2 hp hx hy hz
  obtain ⟨b0a, b0b⟩ := b0
  obtain ⟨b1a, b1b⟩ := b1
  obtain ⟨b2a, b2b⟩ := b2
  have hl3 : (i : Int) + 1 < xs.length := by omega
  have hl4 : (i : Int) + 2 < xs.length := by omega
  obtain ⟨rest, hL⟩ := hL
  have HL := hide hL; clear hL
  have hrun := hA.run
  go_enter Tryd.func63, Tryd.ntmps63
  go_wp2
  go_quiet (fail)
  go_wp2_with (go_at_call 66; refine (ratio_w _ _ _ (by omega) (by omega) (by omega) (by omega)).mono ?_; rintro e w' ⟨rfl, rfl⟩)
  refine (hA.step pre i _ _ _ rfl (hA.keep _ _ _ hI (by repeat (first | exact Below.refl _ _ | assumption | refine Below.alloc ?_ (by first | omega | (simp; omega) | simp) _ | refine Below.setCell ?_ (by first | omega | (simp; omega) | simp) _ | refine below_drewN ?_ _ | refine Below.drew ?_ | refine back ?_ (by assumption)))) ⟨(i + 1, 128 * (y - x)) :: (i + 2, 40 * (y - x)) :: rest, by rw [HL.out]; simp; try omega⟩).mono ?_
  rintro e w1 ⟨rfl, hI1, ho1⟩
  go_wp2_with fail
  refine (hA.step _ (i + 1) _ _ _ (by omega) hI1 ⟨(i + 2, 40 * (y - x)) :: rest, by rw [HL.out]; simp; try omega⟩).mono ?_
  rintro e w2 ⟨rfl, hI2, ho2⟩
  go_wp2_with fail
  refine (hA.step _ (i + 2) _ _ _ (by omega) hI2 ⟨rest, by rw [HL.out]; simp; try omega⟩).mono ?_
  rintro e w3 ⟨rfl, hI3, ho3⟩
  go_wp2_with fail
  go_end0
  refine ⟨rfl, ?_, ((((Only.refl S w).drewN _).trans ho1).trans ho2).trans ho3⟩
  have e : ∀ q1 q2 q3 : Int, q1 = -24 * (y - x) → q2 = 128 * (y - x) → q3 = 40 * (y - x) → ((pre ++ [(i, q1)]) ++ [(i + 1, q2)]) ++ [(i + 2, q3)] = pre ++ [(i, -24 * (y - x)), (i + 1, 128 * (y - x)), (i + 2, 40 * (y - x))] := by
    intro q1 q2 q3 h1 h2 h3; subst h1; subst h2; subst h3; simp
  rw [e _ _ _ (by omega) (by omega) (by omega)] at hI3
  exact hI3

set_option maxHeartbeats 2000000 in
theorem spreadTwo_3g (S : Nat → Prop) (fn : Nat) (p : Addr) (L : List (Nat × Int)) (I : List (Nat × Int) → World → Prop) (hA : Adder S fn p L I)
    (a : Option Addr) (n cap : Nat) (xs : List Int) (w : World) (h : IsLB w.heap.size w (.slice a n cap) xs) (hp : Pos xs) (i : Nat) (hi : i + 2 < xs.length)
    (hr : rat (at_ xs (i + 1) - at_ xs i) (at_ xs (i + 2) - at_ xs (i + 1)) = 3) (hord : at_ xs (i + 2) - at_ xs (i + 1) < at_ xs (i + 1) - at_ xs i)
    (pre : List (Nat × Int)) (hI : I pre w) (hL : ∃ rest, L = pre ++ con xs (i, 2) ++ rest) :
    Calls Tryd.prog 63 #[.slice a n cap, .int .i64 i, .func (.func fn) #[.pointer (some p)] #[]] w fun e w' => e = .returned (.tuple #[]) ∧ I (pre ++ con xs (i, 2)) w' ∧ Only S w w' := by
  obtain ⟨a', cap', hv, hl1, hl2, h3, h4⟩ := h
  cases hv
  unfold maxLen at hl2
  obtain ⟨b, off, rfl, hbl, hc⟩ := h4 (by intro h; subst h; simp at hi)
  have u := hp.up i (by omega)
  have v := hp.up (i + 1) hi
  have b0 := hp.bd i (by omega)
  have b1 := hp.bd (i + 1) (by omega)
  have b2 := hp.bd (i + 2) hi
  have h9 := hp.hi
  have c0 : w.cell? ⟨b, off + i, none⟩ = some (.int .i64 (at_ xs i)) := hc i (by omega)
  have c1 : w.cell? ⟨b, off + (i + 1), none⟩ = some (.int .i64 (at_ xs (i + 1))) := hc (i + 1) (by omega)
  have c2 : w.cell? ⟨b, off + (i + 2), none⟩ = some (.int .i64 (at_ xs (i + 2))) := hc (i + 2) hi
  have hcon := con_two (xs := xs) (i := i) rfl rfl hr
  obtain ⟨x, hx⟩ : ∃ x, at_ xs i = x := ⟨_, rfl⟩
  obtain ⟨y, hy⟩ : ∃ x, at_ xs (i + 1) = x := ⟨_, rfl⟩
  obtain ⟨z, hz⟩ : ∃ x, at_ xs (i + 2) = x := ⟨_, rfl⟩
  rw [show i + 1 + 1 = i + 2 from rfl, hz, hy] at v
  rw [hx, hy, hz] at hr hcon hord
  rw [hx] at c0 u b0
  rw [hy] at c1 u b1
  rw [hz] at c2 b2
  rw [if_pos hord, if_pos hord, Int.min_eq_right (show z - y ≤ y - x by omega)] at hcon
  have hcon2 : con xs (i, 2) = [(i, 40 * (z - y)), (i + 1, 128 * (z - y)), (i + 2, -24 * (z - y))] := by
    rw [hcon]; simp only [List.cons.injEq, Prod.mk.injEq, true_and, and_true]; refine ⟨?_, ?_, ?_⟩ <;> omega
  rw [hcon2] at hL ⊢
  clear hc h4 h3 hcon hcon2 hp hx hy hz
  obtain ⟨b0a, b0b⟩ := b0
  obtain ⟨b1a, b1b⟩ := b1
  obtain ⟨b2a, b2b⟩ := b2
  have hl3 : (i : Int) + 1 < xs.length := by omega
  have hl4 : (i : Int) + 2 < xs.length := by omega
  obtain ⟨rest, hL⟩ := hL
  have HL := hide hL; clear hL
  have hrun := hA.run
  go_enter Tryd.func63, Tryd.ntmps63
  go_wp2
  go_quiet (fail)
  go_wp2_with (go_at_call 66; refine (ratio_w _ _ _ (by omega) (by omega) (by omega) (by omega)).mono ?_; rintro e w' ⟨rfl, rfl⟩)
  refine (hA.step pre i _ _ _ rfl (hA.keep _ _ _ hI (by repeat (first | exact Below.refl _ _ | assumption | refine Below.alloc ?_ (by first | omega | (simp; omega) | simp) _ | refine Below.setCell ?_ (by first | omega | (simp; omega) | simp) _ | refine below_drewN ?_ _ | refine Below.drew ?_ | refine back ?_ (by assumption)))) ⟨(i + 1, 128 * (z - y)) :: (i + 2, -24 * (z - y)) :: rest, by rw [HL.out]; simp; try omega⟩).mono ?_
  rintro e w1 ⟨rfl, hI1, ho1⟩
  go_wp2_with fail
  refine (hA.step _ (i + 1) _ _ _ (by omega) hI1 ⟨(i + 2, -24 * (z - y)) :: rest, by rw [HL.out]; simp; try omega⟩).mono ?_
  rintro e w2 ⟨rfl, hI2, ho2⟩
  go_wp2_with fail
  refine (hA.step _ (i + 2) _ _ _ (by omega) hI2 ⟨rest, by rw [HL.out]; simp; try omega⟩).mono ?_
  rintro e w3 ⟨rfl, hI3, ho3⟩
  go_wp2_with fail
  go_end0
  refine ⟨rfl, ?_, ((((Only.refl S w).drewN _).trans ho1).trans ho2).trans ho3⟩
  have e : ∀ q1 q2 q3 : Int, q1 = 40 * (z - y) → q2 = 128 * (z - y) → q3 = -24 * (z - y) → ((pre ++ [(i, q1)]) ++ [(i + 1, q2)]) ++ [(i + 2, q3)] = pre ++ [(i, 40 * (z - y)), (i + 1, 128 * (z - y)), (i + 2, -24 * (z - y))] := by
    intro q1 q2 q3 h1 h2 h3; subst h1; subst h2; subst h3; simp
  rw [e _ _ _ (by omega) (by omega) (by omega)] at hI3
  exact hI3

theorem spreadTwo_w (S : Nat → Prop) (fn : Nat) (p : Addr) (L : List (Nat × Int)) (I : List (Nat × Int) → World → Prop) (hA : Adder S fn p L I)
    (a : Option Addr) (n cap : Nat) (xs : List Int) (w : World) (h : IsLB w.heap.size w (.slice a n cap) xs) (hp : Pos xs) (i : Nat) (hi : i + 2 < xs.length)
    (hr : rat (at_ xs (i + 1) - at_ xs i) (at_ xs (i + 2) - at_ xs (i + 1)) ≠ 0)
    (pre : List (Nat × Int)) (hI : I pre w) (hL : ∃ rest, L = pre ++ con xs (i, 2) ++ rest) :
    Calls Tryd.prog 63 #[.slice a n cap, .int .i64 i, .func (.func fn) #[.pointer (some p)] #[]] w fun e w' => e = .returned (.tuple #[]) ∧ I (pre ++ con xs (i, 2)) w' ∧ Only S w w' := by
  have u := hp.up i (by omega)
  have v := hp.up (i + 1) hi
  have hv2 : at_ xs (i + 1) < at_ xs (i + 2) := v
  by_cases hord : at_ xs (i + 1) - at_ xs i ≤ at_ xs (i + 2) - at_ xs (i + 1)
  · obtain ⟨_, h1 | h2 | h3⟩ := rat_lt rfl hr hord (by omega)
    · exact spreadTwo_11 S fn p L I hA a n cap xs w h hp i hi h1 hord pre hI hL
    · exact spreadTwo_2l S fn p L I hA a n cap xs w h hp i hi h2 hord pre hI hL
    · exact spreadTwo_3l S fn p L I hA a n cap xs w h hp i hi h3 hord pre hI hL
  · obtain ⟨_, h2 | h3⟩ := rat_gt rfl hr (by omega) (by omega)
    · exact spreadTwo_2g S fn p L I hA a n cap xs w h hp i hi h2 (by omega) pre hI hL
    · exact spreadTwo_3g S fn p L I hA a n cap xs w h hp i hi h3 (by omega) pre hI hL
end Go.Proofs.YtfbgnnelnpcbiaaDoor

namespace Go.Proofs.YtfbgnnelnpcbiaaDoor
open Go.RowKit

theorem IsGB.only {S : Nat → Prop} {B0 B : Nat} {w w' : World} {v : Value} {gs : List (Nat × Nat)} (h : IsGB B w v gs) (hB : B ≤ w.heap.size) (hf : Fresh B0 v) (hS : ∀ k, S k → k < B0) (ho : Only S w w') : IsGB B w' v gs := by
  obtain ⟨a, cap, hv, h1, h2, h4⟩ := h
  refine ⟨a, cap, hv, h1, h2, fun hne => ?_⟩
  obtain ⟨b, off, ha, hlt, hc⟩ := h4 hne
  have hb : ¬ S b := fun hs => by
    have h1 := hS b hs
    have h2 := hf b (by rw [hv, ha]; rfl)
    omega
  exact ⟨b, off, ha, hlt, fun i hi => ⟨by rw [ho.cell (p := ⟨b, off + i * 2, none⟩) (by show b < _; omega) hb]; exact (hc i hi).1, by rw [ho.cell (p := ⟨b, off + i * 2 + 1, none⟩) (by show b < _; omega) hb]; exact (hc i hi).2⟩⟩

theorem IsLB.only {S : Nat → Prop} {B : Nat} {w w' : World} {v : Value} {xs : List Int} (h : IsLB B w v xs) (hB : B ≤ w.heap.size) (hS : ∀ k, S k → B ≤ k) (ho : Only S w w') : IsLB B w' v xs := h.below (ho.below hB hS)

theorem take_flat (xs : List Int) (gs : List (Nat × Nat)) (k : Nat) (h : k < gs.length) : (gs.take (k + 1)).flatMap (con xs) = (gs.take k).flatMap (con xs) ++ con xs gs[k] := by
  rw [List.take_succ_eq_append_getElem h, List.flatMap_append]; simp

theorem cut_flat (xs : List Int) (gs : List (Nat × Nat)) (k : Nat) (h : k < gs.length) : ∃ rest, gs.flatMap (con xs) = (gs.take k).flatMap (con xs) ++ con xs gs[k] ++ rest := by
  refine ⟨(gs.drop (k + 1)).flatMap (con xs), ?_⟩
  rw [← take_flat xs gs k h, ← List.flatMap_append, List.take_append_drop]

theorem many_two {xs : List Int} {i : Nat} (h : many xs i = 2) : i + 2 < xs.length ∧ rat (at_ xs (i + 1) - at_ xs i) (at_ xs (i + 2) - at_ xs (i + 1)) ≠ 0 := by
  unfold many at h; split at h
  · assumption
  · simp at h

set_option maxHeartbeats 2000000 in
theorem spread_w (S : Nat → Prop) (fn : Nat) (p : Addr) (I : List (Nat × Int) → World → Prop) (B : Nat) (a : Option Addr) (n cap : Nat) (xs : List Int) (hA : Adder S fn p (cons xs) I)
    (w : World) (h : IsLB B w (.slice a n cap) xs) (hB : B ≤ w.heap.size) (hp : Pos xs) (hS : ∀ k, S k → B ≤ k ∧ k < w.heap.size) (hI : I [] w) :
    Calls Tryd.prog 54 #[.slice a n cap, .func (.func fn) #[.pointer (some p)] #[]] w fun e w' => e = .returned (.tuple #[]) ∧ I (cons xs) w' ∧ Only S w w' := by
  have hg := groupsOf_w a n cap xs w (h.isL hB) hp
  have HG := hide hg; clear hg
  have HI := hide hI; clear hI
  have HS := hide hS; clear hS
  have HH := hide h; clear h
  go_enter Tryd.func54, Tryd.ntmps54
  go_wp2_with (go_at_call 61; refine HG.out.mono ?_; rintro e w1 ⟨v, rfl, hv, hf, hb⟩; obtain ⟨a1, c1, rfl, l1, m1, k1⟩ := id hv)
  unfold maxLen at m1
  have hS0 : ∀ k, S k → B ≤ k := fun k hk => (HS.out k hk).1
  have hSw : ∀ k, S k → k < w.heap.size := fun k hk => (HS.out k hk).2
  have HS0 := hide hS0; have HSW := hide hSw; clear hS0 hSw
  have hz1 := hb.size
  have hbd := grF_bd xs xs.length 0
  have HBD := hide hbd; clear hbd
  go_loopw [9] (fun i wr => ∃ k : Nat, i = .int .i64 k ∧ k ≤ (grs xs).length ∧ w1.heap.size ≤ wr.heap.size ∧ Hid (I (((grs xs).take k).flatMap (con xs)) wr) ∧ Hid (Only S w wr) ∧ Hid (IsGB w1.heap.size wr (.slice a1 (grs xs).length c1) (grs xs)) ∧ Hid (IsLB B wr (.slice a n cap) xs)) (fun i _ => (grs xs).length - (intOf i).toNat)
  case atStart => exact ⟨0, rfl, Nat.zero_le _, Nat.le_refl _, hide (by simpa using hA.keep _ _ _ HI.out hb), hide (Only.of_below hb), hide hv, hide (HH.out.below (hb.mono hB))⟩
  case round =>
    obtain ⟨k, rfl, hk, hwz, hi, ho, hgv, hxs⟩ := hrel
    by_cases hlt : k < (grs xs).length
    · have hgv' := hgv.out
      obtain ⟨a2, c2, e2, l2, m2, k2⟩ := hgv'
      cases e2
      obtain ⟨b, o, rfl, hbl, hc⟩ := k2 (by intro h; rw [h] at hlt; simp at hlt)
      have hck := hc k hlt
      have hgk : (grs xs)[k]?.getD (0, 0) = (grs xs)[k] := by simp [hlt]
      have hmem := HBD.out (grs xs)[k] (List.getElem_mem hlt)
      obtain ⟨rest, hcut⟩ := cut_flat xs (grs xs) k hlt
      have htk := take_flat xs (grs xs) k hlt
      obtain ⟨g, hge⟩ : ∃ g, (grs xs)[k] = g := ⟨_, rfl⟩
      rw [hgk, hge] at hck
      rw [hge] at hmem hcut htk
      obtain ⟨gi, gm⟩ := g
      simp only at hck hmem
      obtain ⟨ck1, ck2⟩ := hck
      obtain ⟨_, mb, mo, mm⟩ := hmem
      have HM := hide mm; clear mm
      have ck3 : wr.cell? ⟨b, o + (k * 2 + 1), none⟩ = some (.int .i64 (gm : Nat)) := ck2
      have HCUT := hide hcut; have HTK := hide htk
      clear hcut htk hge hgk hc k2
      have hl3 : (k : Int) < (grs xs).length := by omega
      have hsz : ∀ o : Obj, Below wr.heap.size wr (wr.alloc o) := fun o => (Below.refl _ _).alloc (Nat.le_refl _) _
      have HSZ := hide hsz; clear hsz
      have hBw : B ≤ wr.heap.size := by have := hb.size; omega
      rcases mo with rfl | rfl
      · simp only [Int.cast_ofNat_Int, Int.natCast_one] at ck2 ck3
        go_wp2_with fail
        refine (spreadOne_w S fn p (cons xs) I hA a n cap xs _ ((hxs.out.below ((HSZ.out _).mono hBw)).more (by simp; omega)) hp gi (by omega) _ (hA.keep _ _ _ hi.out (HSZ.out _)) ⟨rest, HCUT.out⟩).mono ?_
        rintro e w2 ⟨rfl, hI2, ho2⟩
        have ho3 : Only S wr w2 := (Only.of_below (HSZ.out _)).trans ho2
        have HI2 := hide hI2; have HO3 := hide ho3; clear hI2 ho2 ho3
        have hz2 : wr.heap.size ≤ w2.heap.size := HO3.out.size
        go_wp2
        go_roundw
        case rel => exact ⟨k + 1, by go_num, by omega, by omega, hide (by rw [HTK.out]; exact HI2.out), hide (ho.out.trans HO3.out), hide (hgv.out.only hwz hf HSW.out HO3.out), hide (hxs.out.only hBw HS0.out HO3.out)⟩
        case measure => simp [intOf]; omega
      · simp only [Int.cast_ofNat_Int] at ck2 ck3
        go_wp2_with fail
        refine (spreadTwo_w S fn p (cons xs) I hA a n cap xs _ ((hxs.out.below ((HSZ.out _).mono hBw)).more (by simp; omega)) hp gi mb (many_two HM.out.symm).2 _ (hA.keep _ _ _ hi.out (HSZ.out _)) ⟨rest, HCUT.out⟩).mono ?_
        rintro e w2 ⟨rfl, hI2, ho2⟩
        have ho3 : Only S wr w2 := (Only.of_below (HSZ.out _)).trans ho2
        have HI2 := hide hI2; have HO3 := hide ho3; clear hI2 ho2 ho3
        have hz2 : wr.heap.size ≤ w2.heap.size := HO3.out.size
        go_wp2
        go_roundw
        case rel => exact ⟨k + 1, by go_num, by omega, by omega, hide (by rw [HTK.out]; exact HI2.out), hide (ho.out.trans HO3.out), hide (hgv.out.only hwz hf HSW.out HO3.out), hide (hxs.out.only hBw HS0.out HO3.out)⟩
        case measure => simp [intOf]; omega
    · have hl3 : ¬ ((k : Int) < (grs xs).length) := by omega
      have hn := hi.out
      rw [List.take_of_length_le (by omega)] at hn
      have HN := hide hn; clear hn
      go_wp2
      go_end0
      exact ⟨rfl, HN.out, ho.out⟩
end Go.Proofs.YtfbgnnelnpcbiaaDoor
