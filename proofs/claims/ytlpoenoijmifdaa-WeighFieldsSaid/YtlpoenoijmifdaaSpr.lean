import Derived.Test.YtlpoenoijmifdaaAdd
set_option linter.unusedVariables false
set_option linter.unusedSimpArgs false
namespace Go.Proofs.Ytlpoenoijmifdaa
open Go.RowKit

/-- Of what was there, only the blocks of S may have changed. -/
structure Only (S : Nat → Prop) (w w' : World) : Prop where
  os : w'.os = w.os
  tape : w'.tape = w.tape
  output : w'.output = w.output
  size : w.heap.size ≤ w'.heap.size
  block : ∀ k, k < w.heap.size → ¬ S k → w'.heap[k]? = w.heap[k]?

theorem Only.of_below {S : Nat → Prop} {w w' : World} (h : Below w.heap.size w w') : Only S w w' := ⟨h.os, h.tape, h.output, h.size, fun k hk _ => h.block k hk⟩
theorem Only.refl (S : Nat → Prop) (w : World) : Only S w w := ⟨rfl, rfl, rfl, Nat.le_refl _, fun _ _ _ => rfl⟩
theorem Only.trans {S : Nat → Prop} {a b c : World} (h : Only S a b) (k : Only S b c) : Only S a c :=
  ⟨k.os.trans h.os, k.tape.trans h.tape, k.output.trans h.output, Nat.le_trans h.size k.size, fun i hi hs => (k.block i (Nat.lt_of_lt_of_le hi h.size) hs).trans (h.block i hi hs)⟩
theorem Only.drewN {S : Nat → Prop} {a b : World} (h : Only S a b) (n : Nat) : Only S a (b.drewN n) := ⟨h.os, h.tape, h.output, h.size, h.block⟩
theorem Only.alloc {S : Nat → Prop} {a b : World} (h : Only S a b) (o : Obj) : Only S a (b.alloc o) := h.trans (Only.of_below ((Below.refl _ _).alloc (Nat.le_refl _) _))
theorem Only.below {S : Nat → Prop} {B : Nat} {w w' : World} (h : Only S w w') (hB : B ≤ w.heap.size) (hS : ∀ k, S k → B ≤ k) : Below B w w' :=
  ⟨h.os, h.tape, h.output, h.size, fun k hk => h.block k (by omega) (fun hs => by have := hS k hs; omega)⟩
theorem Only.setCell {S : Nat → Prop} {a b : World} (h : Only S a b) (p : Addr) (u : Value) (hp : S p.block) : Only S a (b.setCell p u) :=
  h.trans ⟨rfl, rfl, rfl, by simp [World.setCell], fun k _ hk => Below.heap_setCell _ _ _ _ (fun e => hk (e ▸ hp))⟩
theorem Only.cell {S : Nat → Prop} {w w' : World} (h : Only S w w') {p : Addr} (hp : p.block < w.heap.size) (hs : ¬ S p.block) : w'.cell? p = w.cell? p := World.cell?_of_block (w := w) (h.block p.block hp hs)

/-- A function value that takes up one weight after the other of the list L; I says what it has taken. -/
structure Adder (S : Nat → Prop) (fn : Nat) (p : Addr) (L : List (Nat × Int)) (I : List (Nat × Int) → World → Prop) : Prop where
  step : ∀ pre (i : Nat) (j x : Int) W, j = i → I pre W → (∃ rest, L = pre ++ (i, x) :: rest) → Calls Try.prog fn #[.pointer (some p), .int .i64 j, .int .i64 x] W fun e W' => e = .returned (.tuple #[]) ∧ I (pre ++ [(i, x)]) W' ∧ Only S W W'
  run : ∀ args W, Sem.run Try.prog (callFunc fn args) W = .ok (.enter fn args) W
  keep : ∀ pre W W', I pre W → Below W.heap.size W W' → I pre W'

set_option maxHeartbeats 1000000 in
theorem spreadOne_w (S : Nat → Prop) (fn : Nat) (p : Addr) (L : List (Nat × Int)) (I : List (Nat × Int) → World → Prop) (hA : Adder S fn p L I)
    (a : Option Addr) (n cap : Nat) (xs : List Int) (w : World) (h : IsLB w.heap.size w (.slice a n cap) xs) (hp : Pos xs) (i : Nat) (hi : i + 1 < xs.length)
    (pre : List (Nat × Int)) (hI : I pre w) (hL : ∃ rest, L = pre ++ con xs (i, 1) ++ rest) :
    Calls Try.prog 95 #[.slice a n cap, .int .i64 i, .func (.func fn) #[.pointer (some p)] #[]] w fun e w' => e = .returned (.tuple #[]) ∧ I (pre ++ con xs (i, 1)) w' ∧ Only S w w' := by
  obtain ⟨a', cap', hv, hl1, hl2, h3, h4⟩ := h
  cases hv
  unfold maxLen at hl2
  obtain ⟨b, off, rfl, hbl, hc⟩ := h4 (by intro h; subst h; simp at hi)
  have u := hp.up i hi
  have b0 := hp.bd i (by omega)
  have b1 := hp.bd (i + 1) hi
  have h9 := hp.hi
  have c0 : w.cell? ⟨b, off + i, none⟩ = some (.int .i64 (at_ xs i)) := hc i (by omega)
  have c1 : w.cell? ⟨b, off + (i + 1), none⟩ = some (.int .i64 (at_ xs (i + 1))) := hc (i + 1) hi
  have hcon : con xs (i, 1) = [(i, 18 * (at_ xs (i + 1) - at_ xs i)), (i + 1, 18 * (at_ xs (i + 1) - at_ xs i))] := by unfold con; simp
  rw [hcon] at hL ⊢
  clear hc h4 h3 hcon hp
  obtain ⟨x, hx⟩ : ∃ x, at_ xs i = x := ⟨_, rfl⟩
  obtain ⟨y, hy⟩ : ∃ x, at_ xs (i + 1) = x := ⟨_, rfl⟩
  rw [hx] at c0 u b0 hL ⊢
  rw [hy] at c1 u b1 hL ⊢
  clear hx hy
  obtain ⟨b0a, b0b⟩ := b0
  obtain ⟨b1a, b1b⟩ := b1
  have hl3 : (i : Int) + 1 < xs.length := by omega
  obtain ⟨rest, hL⟩ := hL
  have HL := hide hL; clear hL
  go_enter Try.func95, Try.ntmps95
  go_wp2
  go_quiet (fail)
  have hrun := hA.run
  go_wp2_with fail
  refine (hA.step pre i _ _ _ rfl (hA.keep _ _ _ hI (by repeat (first | exact Below.refl _ _ | assumption | refine Below.alloc ?_ (by first | omega | (simp; omega) | simp) _ | refine Below.setCell ?_ (by first | omega | (simp; omega) | simp) _ | refine below_drewN ?_ _ | refine Below.drew ?_ | refine back ?_ (by assumption)))) ⟨(i + 1, 18 * (y - x)) :: rest, by rw [HL.out]; simp⟩).mono ?_
  rintro e w1 ⟨rfl, hI1, ho1⟩
  go_wp2_with fail
  refine (hA.step (pre ++ [(i, 18 * (y - x))]) (i + 1) _ _ _ (by omega) hI1 ⟨rest, by rw [HL.out]; simp⟩).mono ?_
  rintro e w2 ⟨rfl, hI2, ho2⟩
  go_wp2_with fail
  go_end0
  exact ⟨rfl, by simpa using hI2, (((Only.refl S w).drewN _).trans ho1).trans ho2⟩

theorem run_addWeight (args : Array Value) (W : World) : Sem.run Try.prog (callFunc 88 args) W = .ok (.enter 88 args) W := by kernel_rfl
theorem run_addProduct (args : Array Value) (W : World) : Sem.run Try.prog (callFunc 89 args) W = .ok (.enter 89 args) W := by kernel_rfl
end Go.Proofs.Ytlpoenoijmifdaa
