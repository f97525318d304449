import Derived.Test.YtlpoenoijmifdaaGri
set_option linter.unusedVariables false
set_option linter.unusedSimpArgs false
namespace Go.Proofs.Ytlpoenoijmifdaa
open Go.RowKit Go.Shelf

attribute [local go_sem] Oper.semAt_some

def vAt (vs : List Value) (i : Nat) : Value := if i < vs.length then vs[i]?.getD undef else .slice none 0 0

theorem vAt_lt {vs : List Value} {i : Nat} (h : i < vs.length) : vAt vs i = vs[i]?.getD undef := by unfold vAt; rw [if_pos h]

set_option maxRecDepth 100000 in
set_option maxHeartbeats 2000000 in
/-- pairs of two lists of rows: the closure that is ranged over. -/
theorem pairsR_in (F : Fence) (n : Nat) (h7 : F.fn 93) (hro : F.round = none) (hn : 1 ≤ n) (l B1 B2 n₀ : Nat) (v1 v2 : Value) (us vs : List Value) (xs ys : List (List Int)) (hxs : 0 < xs.length) (hl : xs.length = ys.length) (J Jx : List Nat → World → Prop)
    (hY : ∀ pre x W, J pre W → pre.length < xs.length → YieldAt F (n - 1) Try.prog l #[vAt us x, vAt vs x] W fun e W' =>
      (e = .returned (.bool true) ∧ J (pre ++ [x]) W' ∧ KpP n₀ B1 B2 W W') ∨ (e = .returned (.bool false) ∧ Jx (pre ++ [x]) W'))
    (W : World) (hc1 : W.cell? ⟨B1, 0, none⟩ = some v1) (hc2 : W.cell? ⟨B2, 0, none⟩ = some v2) (i1 : IsRB n₀ W v1 us xs) (i2 : IsRB n₀ W v2 vs ys) (h0 : J [] W) :
    CallsIn F n Try.prog 93 #[.func (.yield l) #[] #[], .pointer (some ⟨B1, 0, none⟩), .pointer (some ⟨B2, 0, none⟩)] W fun e W' => (∃ v, e = .returned v) ∧
      ((∃ zs, zs = List.range xs.length ∧ J zs W') ∨ (∃ pre, (∃ k, k ≤ xs.length ∧ pre = List.range k) ∧ Jx pre W')) := by
  obtain ⟨hu0, hu1, a1, c1, rfl, l1, m1, k1⟩ := i1
  obtain ⟨hv0, hv1, a2, c2, rfl, l2, m2, k2⟩ := i2
  unfold maxLen at m1 m2
  obtain ⟨b1, o1, rfl, hb1, q1⟩ := k1 (by intro h; rw [h] at hxs; simp at hxs)
  obtain ⟨b2, o2, rfl, hb2, q2⟩ := k2 (by intro h; rw [h] at hl; simp only [List.length_nil] at hl; omega)
  have HL := hide hl; have HU0 := hide hu0; have HV0 := hide hv0; have HU1 := hide hu1; have HV1 := hide hv1
  clear hl k1 k2 hu0 hv0 hu1 hv1
  have Q1 := hide q1; have Q2 := hide q2; clear q1 q2
  have HY := hide hY; clear hY
  refine callsIn_of_wp Try.func93 rfl h7 ?_ hro
  simp only [Try.ntmps93, List.size_toArray, List.length_cons, List.length_nil, Nat.reduceAdd, Nat.reduceSub, Array.replicate_succ, Array.replicate_zero, List.push_toArray, List.append_toArray, List.nil_append, List.cons_append]
  gi_wp2
  gi_loopw [8] (fun i wr => ∃ k : Nat, k ≤ xs.length ∧ i = .int .i64 k ∧ J (List.range k) wr ∧ KpP n₀ B1 B2 W wr)
    (fun i _ => xs.length - (intOf i).toNat)
  case atStart => exact ⟨0, Nat.zero_le _, rfl, h0, KpP.refl _ _ _ _⟩
  case round =>
    obtain ⟨k, hk, rfl, hJs, hnx⟩ := hrel
    by_cases hlt : k < xs.length
    · obtain ⟨fn, tmps, assign, body, hy, hR⟩ := HY.out _ k wr hJs (by simpa using hlt)
      have hlt2 : k < ys.length := by have := HL.out; omega
      rw [vAt_lt (by rw [HU0.out]; exact hlt), vAt_lt (by rw [HV0.out]; exact hlt2)] at hy
      have d1 : wr.cell? ⟨b1, o1 + k, none⟩ = some (us[k]?.getD undef) := (hnx.1.cell (p := ⟨b1, o1 + k, none⟩) hb1).trans (Q1.out k hlt)
      have d2 : wr.cell? ⟨b2, o2 + k, none⟩ = some (vs[k]?.getD undef) := (hnx.1.cell (p := ⟨b2, o2 + k, none⟩) hb2).trans (Q2.out k hlt2)
      have hx1 := HU1.out k hlt
      have hx2 := HV1.out k hlt2
      generalize xs[k]?.getD [] = r1 at hx1
      generalize ys[k]?.getD [] = r2 at hx2
      obtain ⟨a5, c5, e5, _⟩ := hx1
      obtain ⟨a6, c6, e6, _⟩ := hx2
      rw [e5] at hy d1
      rw [e6] at hy d2
      clear e5 e6
      have e2 : wr.cell? ⟨B2, 0, none⟩ = some (.slice (some ⟨b2, o2, none⟩) ys.length c2) := (World.cell?_of_block (w := W) hnx.2.2).trans hc2
      have hl3 : (k : Int) < xs.length := by omega
      have hl4 : (k : Int) < ys.length := by omega
      gi_wp2
      refine hR.mono ?_
      rintro e W3 (⟨rfl, hJ3, hk3⟩ | ⟨rfl, hJx3⟩)
      · gi_wp2
        go_roundw
        case rel => exact ⟨k + 1, by omega, by simp, by rw [List.range_succ]; exact hJ3, hnx.trans hk3⟩
        case measure => simp [intOf]; omega
      · gi_wp2
        refine bodyPost_ret (results_none rfl _ _ _) rfl ?_
        exact ⟨⟨_, rfl⟩, .inr ⟨_, ⟨k + 1, by omega, List.range_succ.symm⟩, hJx3⟩⟩
    · obtain rfl : k = xs.length := by omega
      gi_wp2
      go_end0
      exact ⟨⟨_, rfl⟩, .inl ⟨_, rfl, hJs⟩⟩

theorem pairsR_stops (F : Fence) (n : Nat) (h7 : F.fn 93) (hro : F.round = none) (hn : 1 ≤ n) (B1 B2 n₀ : Nat) (v1 v2 : Value) (us vs : List Value) (xs ys : List (List Int)) (hxs : 0 < xs.length) (hl : xs.length = ys.length) (w : World)
    (hB1 : B1 < w.heap.size) (hB2 : B2 < w.heap.size) (hn₀ : n₀ ≤ w.heap.size) (hc1 : w.cell? ⟨B1, 0, none⟩ = some v1) (hc2 : w.cell? ⟨B2, 0, none⟩ = some v2) (i1 : IsRB n₀ w v1 us xs) (i2 : IsRB n₀ w v2 vs ys) :
    SeqStopsK F n Try.prog 93 #[.pointer (some ⟨B1, 0, none⟩), .pointer (some ⟨B2, 0, none⟩)] (fun x : Nat => #[vAt us x, vAt vs x]) (KpP n₀ B1 B2) (fun zs => zs = List.range xs.length) (fun _ => True) xs.length w :=
  fun l J Jx W hW _ _ hY h0 => (pairsR_in F n h7 hro hn l B1 B2 n₀ v1 v2 us vs xs ys hxs hl J Jx hY W ((hW.cell (p := ⟨B1, 0, none⟩) hB1).trans hc1) ((hW.cell (p := ⟨B2, 0, none⟩) hB2).trans hc2) (i1.below (hW.mono hn₀)) (i2.below (hW.mono hn₀)) h0).mono
    fun e W' ⟨he, h⟩ => ⟨he, h.imp id fun ⟨pre, _, hp⟩ => ⟨pre, trivial, hp⟩⟩

set_option maxHeartbeats 1000000 in
theorem pairsR_call (F : Fence) (n : Nat) (h5 : F.fn 82) (hro : F.round = none) (v1 v2 : Value) (a1 a2 : Option Addr) (n1 n2 c1 c2 : Nat) (e1 : v1 = .slice a1 n1 c1) (e2 : v2 = .slice a2 n2 c2) (w : World) :
    CallsIn F n Try.prog 82 #[v1, v2] w fun e w' => e = .returned (.func (.func 93) #[] #[.pointer (some ⟨w.heap.size, 0, none⟩), .pointer (some ⟨w.heap.size + 1, 0, none⟩)]) ∧ w' = (w.alloc (.cells #[v1] 68)).alloc (.cells #[v2] 68) := by
  subst e1; subst e2
  refine callsIn_of_wp Try.func82 rfl h5 ?_ hro
  simp only [Try.ntmps82, List.size_toArray, List.length_cons, List.length_nil, Nat.reduceAdd, Nat.reduceSub, Array.replicate_succ, Array.replicate_zero, List.push_toArray, List.append_toArray, List.nil_append, List.cons_append]
  gi_wp2
  go_ret
  exact ⟨rfl, rfl⟩
end Go.Proofs.Ytlpoenoijmifdaa
