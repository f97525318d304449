import Derived.Test.YtlpoenoijmifdaaWts
set_option linter.unusedVariables false
set_option linter.unusedSimpArgs false
namespace Go.Proofs.Ytlpoenoijmifdaa
open Go.RowKit

theorem mul_lim {a b K V : Int} (ha : -K ≤ a ∧ a ≤ K) (hb : -V ≤ b ∧ b ≤ V) : -(K * V) ≤ a * b ∧ a * b ≤ K * V := by
  have h1 : (K - a) * (V + b) ≥ 0 := Int.mul_nonneg (by omega) (by omega)
  have h2 : (K + a) * (V - b) ≥ 0 := Int.mul_nonneg (by omega) (by omega)
  have h3 : (K + a) * (V + b) ≥ 0 := Int.mul_nonneg (by omega) (by omega)
  have h4 : (K - a) * (V - b) ≥ 0 := Int.mul_nonneg (by omega) (by omega)
  simp only [Int.sub_mul, Int.add_mul, Int.mul_sub, Int.mul_add] at h1 h2 h3 h4
  omega

theorem sumP_lim (K V : Int) (hK : 0 ≤ K) (hV : 0 ≤ V) (vs : List Int) (hv : Lim V vs) (L : List (Nat × Int)) : ∀ s M : Int, -M ≤ s → s ≤ M → (∀ p ∈ L, -K ≤ p.2 ∧ p.2 ≤ K) →
    -(M + K * V * L.length) ≤ L.foldl (sumP vs) s ∧ L.foldl (sumP vs) s ≤ M + K * V * L.length := by
  induction L with
  | nil => intro s M h1 h2 _; simp; omega
  | cons p L ih =>
    intro s M h1 h2 hp
    have hpp := hp p List.mem_cons_self
    have hvv := hv p.1
    have hprod : -(K * V) ≤ p.2 * at_ vs p.1 ∧ p.2 * at_ vs p.1 ≤ K * V := mul_lim hpp hvv
    have := ih (sumP vs s p) (M + K * V) (by unfold sumP; omega) (by unfold sumP; omega) (fun q hq => hp q (List.mem_cons_of_mem _ hq))
    rw [List.foldl_cons, List.length_cons]
    have e : K * V * ((L.length + 1 : Nat) : Int) = K * V + K * V * (L.length : Int) := by rw [Int.natCast_add, Int.mul_add]; omega
    rw [e]; omega

theorem pre_sum {xs vs : List Int} (hp : Pos xs) (hv : Lim 2000000000 vs) {pre rest : List (Nat × Int)} {p : Nat × Int} (h : cons xs = pre ++ p :: rest) :
    p.1 < xs.length ∧ (-40000000000000000 ≤ p.2 * at_ vs p.1 ∧ p.2 * at_ vs p.1 ≤ 40000000000000000) ∧ -960000000000000000 ≤ pre.foldl (sumP vs) 0 ∧ pre.foldl (sumP vs) 0 ≤ 960000000000000000 := by
  obtain ⟨h1, h2⟩ := cons_bd hp
  rw [h] at h1 h2
  have hl : pre.length ≤ 24 := by simp at h1; omega
  obtain ⟨a, b, c⟩ := h2 p (by simp)
  have hb := mul_lim ⟨b, c⟩ (hv p.1)
  have := sumP_lim 20000000 2000000000 (by omega) (by omega) vs hv pre 0 0 (by omega) (by omega) fun q hq => (h2 q (by simp [hq])).2
  refine ⟨a, by omega, by omega, by omega⟩

theorem dot_lim {xs vs : List Int} (hp : Pos xs) (hv : Lim 2000000000 vs) : -960000000000000000 ≤ dot xs vs ∧ dot xs vs ≤ 960000000000000000 := by
  obtain ⟨h1, h2⟩ := cons_bd hp
  have := sumP_lim 20000000 2000000000 (by omega) (by omega) vs hv (cons xs) 0 0 (by omega) (by omega) fun q hq => (h2 q hq).2
  unfold dot; omega

theorem adder_products {xs vs : List Int} (hp : Pos xs) (hl : vs.length = xs.length) (hv : Lim 2000000000 vs) (tb : Nat) (a : Option Addr) (n cap : Nat) :
    Adder (fun k => k = tb) 89 ⟨tb, 0, none⟩ (cons xs) (fun pre W => Blk W tb 95 #[.slice none 0 0, .slice a n cap, .int .i64 (pre.foldl (sumP vs) 0)] ∧ IsLB tb W (.slice a n cap) vs) where
  step := by
    intro pre i j x W hj hI hL
    subst hj
    obtain ⟨rest, hL⟩ := hL
    obtain ⟨h1, h2, h3, h4⟩ := pre_sum hp hv hL
    simp only at h1 h2
    obtain ⟨h2a, h2b⟩ := h2
    refine (addProduct_w tb a n cap vs _ i x W hI.1 hI.2 (by omega) (by omega) (by omega) (by omega) (by omega)).mono ?_
    rintro e W' ⟨he, q, rfl⟩
    refine ⟨he, ⟨?_, ?_⟩, ?_⟩
    · have h5 : Blk (W.drewN q) tb 95 #[.slice none 0 0, .slice a n cap, .int .i64 (pre.foldl (sumP vs) 0)] := hI.1
      have := h5.set 2 (.int .i64 (pre.foldl (sumP vs) 0 + x * at_ vs i))
      rw [List.foldl_append]
      exact this
    · refine IsLB.keep (hI.2.drewN q) (fun p hp => ?_)
      exact World.cell?_setCell_other _ _ _ _ (fun e => by subst e; simp at hp)
    · exact ((Only.refl _ _).drewN q).setCell _ _ rfl
  run := run_addProduct
  keep := fun _ _ _ h hb => ⟨(hb.block _ h.1.lt).trans h.1, h.2.below (hb.mono (Nat.le_of_lt h.1.lt))⟩

set_option maxHeartbeats 1000000 in
theorem integrate_w (a1 a2 : Option Addr) (n1 n2 cap1 cap2 : Nat) (xs vs : List Int) (w : World) (h1 : IsL w (.slice a1 n1 cap1) xs) (h2 : IsL w (.slice a2 n2 cap2) vs) (hp : Pos xs) (hl : vs.length = xs.length) (hv : Lim 2000000000 vs) :
    Calls Try.prog 74 #[.slice a1 n1 cap1, .slice a2 n2 cap2] w fun e w' => e = .returned (.int .i64 (dot xs vs)) ∧ Below w.heap.size w w' := by
  have H1 := hide h1; have H2 := hide h2; clear h1 h2
  have HL := hide hl; clear hl
  go_enter Try.func74, Try.ntmps74
  go_wp2_with fail
  refine (spread_w (fun k => k = w.heap.size) 89 ⟨w.heap.size, 0, none⟩ _ w.heap.size a1 n1 cap1 xs (adder_products hp HL.out hv w.heap.size a2 n2 cap2) _ ?_ ?_ hp ?_ ?_).mono ?_
  · exact IsLB.below (B := w.heap.size) H1.out ((Below.refl _ _).alloc (Nat.le_refl _) _)
  · simp
  · intro k hk; simp; omega
  · exact ⟨Blk.new w 95 _, IsLB.below (B := w.heap.size) H2.out ((Below.refl _ _).alloc (Nat.le_refl _) _)⟩
  rintro e w1 ⟨rfl, hst, ho⟩
  have hb2 : Below w.heap.size w w1 := ((Below.refl w.heap.size w).alloc (Nat.le_refl _) _).trans (ho.below (B := w.heap.size) (by simp) (fun k hk => by omega))
  have c0 : w1.cell? ⟨w.heap.size, 2, none⟩ = some (.int .i64 (dot xs vs)) := hst.1.cell 2
  clear hst ho
  go_wp2
  go_ret
  exact ⟨rfl, hb2⟩
end Go.Proofs.Ytlpoenoijmifdaa
