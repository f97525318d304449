import Derived.Test.YtlpoenoijmifdaaVom
set_option linter.unusedVariables false
set_option linter.unusedSimpArgs false
namespace Go.Proofs.Ytlpoenoijmifdaa
open Go.RowKit Go.Shelf

attribute [local go_sem] Oper.semAt_some

/-- The slice value v reads as integers; its cells lie in a block of Z. -/
def IsLZ (Z : Nat → Prop) (w : World) (v : Value) (xs : List Int) : Prop :=
  ∃ a cap, v = .slice a xs.length cap ∧ xs.length ≤ cap ∧ cap ≤ maxLen ∧ (∀ x ∈ xs, FB x) ∧
    (xs ≠ [] → ∃ b off, a = some ⟨b, off, none⟩ ∧ Z b ∧ ∀ i, i < xs.length → w.cell? ⟨b, off + i, none⟩ = some (.int .i64 (xs[i]?.getD 0)))
def IsRZ (Z : Nat → Prop) (w : World) (v : Value) (vs : List Value) (rows : List (List Int)) : Prop :=
  vs.length = rows.length ∧ (∀ i, i < rows.length → IsLZ Z w (vs[i]?.getD undef) (rows[i]?.getD [])) ∧
  ∃ a cap, v = .slice a rows.length cap ∧ rows.length ≤ cap ∧ cap ≤ maxLen ∧
    (rows ≠ [] → ∃ b off, a = some ⟨b, off, none⟩ ∧ Z b ∧ ∀ i, i < rows.length → w.cell? ⟨b, off + i, none⟩ = some (vs[i]?.getD undef))

def KpZ (Z : Nat → Prop) (W W' : World) : Prop := ∀ k, Z k → W'.heap[k]? = W.heap[k]?
theorem KpZ.refl (Z : Nat → Prop) (W : World) : KpZ Z W W := fun _ _ => rfl
theorem KpZ.trans {Z : Nat → Prop} {A B C : World} (h : KpZ Z A B) (k : KpZ Z B C) : KpZ Z A C := fun i hi => (k i hi).trans (h i hi)
theorem KpZ.put {Z : Nat → Prop} {w : World} (hZ : ∀ k, Z k → k < w.heap.size) (W : World) (l : Nat) (o o' : Obj) (hl : w.heap.size ≤ l) (_h : W.heap[l]? = some o) (_hc : o.isCells = false) (_hw : o.isWalk = false) : KpZ Z W (W.putObj l o') :=
  fun k hk => World.putObj_heap_other (by have := hZ k hk; omega)
theorem KpZ.of_below {Z : Nat → Prop} {B : Nat} {W W' : World} (h : Below B W W') (hZ : ∀ k, Z k → k < B) : KpZ Z W W' := fun k hk => h.block k (hZ k hk)

theorem IsLZ.keepZ {Z : Nat → Prop} {w w' : World} {v : Value} {xs : List Int} (h : IsLZ Z w v xs) (hk : KpZ Z w w') : IsLZ Z w' v xs := by
  obtain ⟨a, cap, hv, h1, h2, h3, h4⟩ := h
  refine ⟨a, cap, hv, h1, h2, h3, fun hne => ?_⟩
  obtain ⟨b, off, ha, hlt, hc⟩ := h4 hne
  exact ⟨b, off, ha, hlt, fun i hi => by rw [World.cell?_of_block (w := w) (hk b hlt)]; exact hc i hi⟩
theorem IsRZ.keepZ {Z : Nat → Prop} {w w' : World} {v : Value} {vs : List Value} {rows : List (List Int)} (h : IsRZ Z w v vs rows) (hk : KpZ Z w w') : IsRZ Z w' v vs rows := by
  obtain ⟨h0, h1, a, cap, hv, h2, h3, h4⟩ := h
  refine ⟨h0, fun i hi => (h1 i hi).keepZ hk, a, cap, hv, h2, h3, fun hne => ?_⟩
  obtain ⟨b, off, ha, hlt, hc⟩ := h4 hne
  exact ⟨b, off, ha, hlt, fun i hi => by rw [World.cell?_of_block (w := w) (hk b hlt)]; exact hc i hi⟩
theorem IsLZ.below {Z : Nat → Prop} {B : Nat} {w w' : World} {v : Value} {xs : List Int} (h : IsLZ Z w v xs) (hb : Below B w w') (hZ : ∀ k, Z k → k < B) : IsLZ Z w' v xs := h.keepZ (KpZ.of_below hb hZ)
theorem IsRZ.below {Z : Nat → Prop} {B : Nat} {w w' : World} {v : Value} {vs : List Value} {rows : List (List Int)} (h : IsRZ Z w v vs rows) (hb : Below B w w') (hZ : ∀ k, Z k → k < B) : IsRZ Z w' v vs rows := h.keepZ (KpZ.of_below hb hZ)
theorem IsLZ.more {Z Z' : Nat → Prop} {w : World} {v : Value} {xs : List Int} (h : IsLZ Z w v xs) (hZ : ∀ k, Z k → Z' k) : IsLZ Z' w v xs := by
  obtain ⟨a, cap, hv, h1, h2, h3, h4⟩ := h
  refine ⟨a, cap, hv, h1, h2, h3, fun hne => ?_⟩
  obtain ⟨b, off, ha, hlt, hc⟩ := h4 hne
  exact ⟨b, off, ha, hZ b hlt, hc⟩
/-- A slice whose block is none below B0. -/
theorem IsLB.toZ {B B0 : Nat} {w : World} {v : Value} {xs : List Int} (h : IsLB B w v xs) (hf : Fresh B0 v) : IsLZ (fun k => k < B ∧ B0 ≤ k) w v xs := by
  obtain ⟨a, cap, hv, h1, h2, h3, h4⟩ := h
  refine ⟨a, cap, hv, h1, h2, h3, fun hne => ?_⟩
  obtain ⟨b, off, ha, hlt, hc⟩ := h4 hne
  exact ⟨b, off, ha, ⟨hlt, hf b (by rw [hv, ha]; rfl)⟩, hc⟩
theorem Fresh.zero (v : Value) : Fresh 0 v := fun _ _ => Nat.zero_le _
theorem IsRB.toZ {B B0 : Nat} {w : World} {v : Value} {vs : List Value} {rows : List (List Int)} (h : IsRB B w v vs rows) (hf : Fresh B0 v) (hfs : ∀ i, i < vs.length → Fresh B0 (vs[i]?.getD undef)) : IsRZ (fun k => k < B ∧ B0 ≤ k) w v vs rows := by
  obtain ⟨h0, h1, a, cap, hv, h2, h3, h4⟩ := h
  refine ⟨h0, fun i hi => (h1 i hi).toZ (hfs i (by omega)), a, cap, hv, h2, h3, fun hne => ?_⟩
  obtain ⟨b, off, ha, hlt, hc⟩ := h4 hne
  exact ⟨b, off, ha, ⟨hlt, hf b (by rw [hv, ha]; rfl)⟩, hc⟩
theorem IsRZ.more {Z Z' : Nat → Prop} {w : World} {v : Value} {vs : List Value} {rows : List (List Int)} (h : IsRZ Z w v vs rows) (hZ : ∀ k, Z k → Z' k) : IsRZ Z' w v vs rows := by
  obtain ⟨h0, h1, a, cap, hv, h2, h3, h4⟩ := h
  refine ⟨h0, fun i hi => (h1 i hi).more hZ, a, cap, hv, h2, h3, fun hne => ?_⟩
  obtain ⟨b, off, ha, hlt, hc⟩ := h4 hne
  exact ⟨b, off, ha, hZ b hlt, hc⟩

set_option maxRecDepth 100000 in
set_option maxHeartbeats 2000000 in
/-- pairs of two lists of ints: the closure that is ranged over. -/
theorem pairsIZ_in (F : Fence) (n : Nat) (h7 : F.fn 94) (hro : F.round = none) (hn : 1 ≤ n) (l B1 B2 : Nat) (Z : Nat → Prop) (v1 v2 : Value) (xs ys : List Int) (hl : xs.length = ys.length) (J Jx : List Nat → World → Prop)
    (hY : ∀ pre x W, J pre W → pre.length < xs.length → YieldAt F (n - 1) Try.prog l #[.int .i64 (at_ xs x), .int .i64 (at_ ys x)] W fun e W' =>
      (e = .returned (.bool true) ∧ J (pre ++ [x]) W' ∧ KpZ Z W W') ∨ (e = .returned (.bool false) ∧ Jx (pre ++ [x]) W'))
    (W : World) (hZ1 : Z B1) (hZ2 : Z B2) (hc1 : W.cell? ⟨B1, 0, none⟩ = some v1) (hc2 : W.cell? ⟨B2, 0, none⟩ = some v2) (i1 : IsLZ Z W v1 xs) (i2 : IsLZ Z W v2 ys) (h0 : J [] W) :
    CallsIn F n Try.prog 94 #[.func (.yield l) #[] #[], .pointer (some ⟨B1, 0, none⟩), .pointer (some ⟨B2, 0, none⟩)] W fun e W' => (∃ v, e = .returned v) ∧
      ((∃ zs, zs = List.range xs.length ∧ J zs W') ∨ (∃ pre, (∃ k, k ≤ xs.length ∧ pre = List.range k) ∧ Jx pre W')) := by
  obtain ⟨a1, c1, rfl, l1, m1, _, k1⟩ := i1
  obtain ⟨a2, c2, rfl, l2, m2, _, k2⟩ := i2
  unfold maxLen at m1 m2
  have HL := hide hl; clear hl
  have K1 := hide k1; have K2 := hide k2; clear k1 k2
  have HY := hide hY; clear hY
  refine callsIn_of_wp Try.func94 rfl h7 ?_ hro
  simp only [Try.ntmps94, List.size_toArray, List.length_cons, List.length_nil, Nat.reduceAdd, Nat.reduceSub, Array.replicate_succ, Array.replicate_zero, List.push_toArray, List.append_toArray, List.nil_append, List.cons_append]
  gi_wp2
  gi_loopw [8] (fun i wr => ∃ k : Nat, k ≤ xs.length ∧ i = .int .i64 k ∧ J (List.range k) wr ∧ KpZ Z W wr)
    (fun i _ => xs.length - (intOf i).toNat)
  case atStart => exact ⟨0, Nat.zero_le _, rfl, h0, KpZ.refl _ _⟩
  case round =>
    obtain ⟨k, hk, rfl, hJs, hnx⟩ := hrel
    by_cases hlt : k < xs.length
    · obtain ⟨fn, tmps, assign, body, hy, hR⟩ := HY.out _ k wr hJs (by simpa using hlt)
      obtain ⟨b1, o1, rfl, hb1, q1⟩ := K1.out (by intro h; rw [h] at hlt; simp at hlt)
      obtain ⟨b2, o2, rfl, hb2, q2⟩ := K2.out (by intro h; have := HL.out; rw [h] at this; simp only [List.length_nil] at this; omega)
      have Q1 := hide q1; have Q2 := hide q2; clear q1 q2 K1 K2
      have d1 : wr.cell? ⟨b1, o1 + k, none⟩ = some (.int .i64 (at_ xs k)) := (World.cell?_of_block (w := W) (hnx _ hb1)).trans (Q1.out k hlt)
      have d2 : wr.cell? ⟨b2, o2 + k, none⟩ = some (.int .i64 (at_ ys k)) := (World.cell?_of_block (w := W) (hnx _ hb2)).trans (Q2.out k (by have := HL.out; omega))
      have e2 : wr.cell? ⟨B2, 0, none⟩ = some (.slice (some ⟨b2, o2, none⟩) ys.length c2) := (World.cell?_of_block (w := W) (hnx _ hZ2)).trans hc2
      have hl3 : (k : Int) < xs.length := by omega
      have hl4 : (k : Int) < ys.length := by have := HL.out; omega
      gi_wp2
      refine hR.mono ?_
      rintro e W3 (⟨rfl, hJ3, hk3⟩ | ⟨rfl, hJx3⟩)
      · gi_wp2
        go_roundw
        case rel => exact ⟨k + 1, by omega, by simp, by rw [List.range_succ]; exact hJ3, hnx.trans hk3⟩
        case measure => simp [intOf]; omega
      · gi_wp2
        refine bodyPost_ret (results_none rfl _ _ _) rfl ?_
        exact ⟨⟨_, rfl⟩, .inr ⟨_, ⟨k + 1, by omega, List.range_succ.symm⟩, hJx3⟩⟩
    · obtain rfl : k = xs.length := by omega
      gi_wp2
      go_end0
      exact ⟨⟨_, rfl⟩, .inl ⟨_, rfl, hJs⟩⟩

theorem pairsIZ_stops (F : Fence) (n : Nat) (h7 : F.fn 94) (hro : F.round = none) (hn : 1 ≤ n) (B1 B2 : Nat) (Z : Nat → Prop) (v1 v2 : Value) (xs ys : List Int) (hl : xs.length = ys.length) (w : World)
    (hB1 : B1 < w.heap.size) (hB2 : B2 < w.heap.size) (hn₀ : ∀ k, Z k → k < w.heap.size) (hZ1 : Z B1) (hZ2 : Z B2) (hc1 : w.cell? ⟨B1, 0, none⟩ = some v1) (hc2 : w.cell? ⟨B2, 0, none⟩ = some v2) (i1 : IsLZ Z w v1 xs) (i2 : IsLZ Z w v2 ys) :
    SeqStopsK F n Try.prog 94 #[.pointer (some ⟨B1, 0, none⟩), .pointer (some ⟨B2, 0, none⟩)] (fun x : Nat => #[.int .i64 (at_ xs x), .int .i64 (at_ ys x)]) (KpZ Z) (fun zs => zs = List.range xs.length) (fun _ => True) xs.length w :=
  fun l J Jx W hW _ _ hY h0 => (pairsIZ_in F n h7 hro hn l B1 B2 Z v1 v2 xs ys hl J Jx hY W hZ1 hZ2 ((hW.cell (p := ⟨B1, 0, none⟩) hB1).trans hc1) ((hW.cell (p := ⟨B2, 0, none⟩) hB2).trans hc2) (i1.below hW hn₀) (i2.below hW hn₀) h0).mono
    fun e W' ⟨he, h⟩ => ⟨he, h.imp id fun ⟨pre, _, hp⟩ => ⟨pre, trivial, hp⟩⟩

set_option maxRecDepth 100000 in
set_option maxHeartbeats 2000000 in
/-- pairs of two lists of rows: the closure that is ranged over. -/
theorem pairsRZ_in (F : Fence) (n : Nat) (h7 : F.fn 93) (hro : F.round = none) (hn : 1 ≤ n) (l B1 B2 : Nat) (Z : Nat → Prop) (v1 v2 : Value) (us vs : List Value) (xs ys : List (List Int)) (hl : xs.length = ys.length) (J Jx : List Nat → World → Prop)
    (hY : ∀ pre x W, J pre W → pre.length < xs.length → YieldAt F (n - 1) Try.prog l #[vAt us x, vAt vs x] W fun e W' =>
      (e = .returned (.bool true) ∧ J (pre ++ [x]) W' ∧ KpZ Z W W') ∨ (e = .returned (.bool false) ∧ Jx (pre ++ [x]) W'))
    (W : World) (hZ1 : Z B1) (hZ2 : Z B2) (hc1 : W.cell? ⟨B1, 0, none⟩ = some v1) (hc2 : W.cell? ⟨B2, 0, none⟩ = some v2) (i1 : IsRZ Z W v1 us xs) (i2 : IsRZ Z W v2 vs ys) (h0 : J [] W) :
    CallsIn F n Try.prog 93 #[.func (.yield l) #[] #[], .pointer (some ⟨B1, 0, none⟩), .pointer (some ⟨B2, 0, none⟩)] W fun e W' => (∃ v, e = .returned v) ∧
      ((∃ zs, zs = List.range xs.length ∧ J zs W') ∨ (∃ pre, (∃ k, k ≤ xs.length ∧ pre = List.range k) ∧ Jx pre W')) := by
  obtain ⟨hu0, hu1, a1, c1, rfl, l1, m1, k1⟩ := i1
  obtain ⟨hv0, hv1, a2, c2, rfl, l2, m2, k2⟩ := i2
  unfold maxLen at m1 m2
  have HL := hide hl; have HU0 := hide hu0; have HV0 := hide hv0; have HU1 := hide hu1; have HV1 := hide hv1
  have K1 := hide k1; have K2 := hide k2
  clear hl k1 k2 hu0 hv0 hu1 hv1
  have HY := hide hY; clear hY
  refine callsIn_of_wp Try.func93 rfl h7 ?_ hro
  simp only [Try.ntmps93, List.size_toArray, List.length_cons, List.length_nil, Nat.reduceAdd, Nat.reduceSub, Array.replicate_succ, Array.replicate_zero, List.push_toArray, List.append_toArray, List.nil_append, List.cons_append]
  gi_wp2
  gi_loopw [8] (fun i wr => ∃ k : Nat, k ≤ xs.length ∧ i = .int .i64 k ∧ J (List.range k) wr ∧ KpZ Z W wr)
    (fun i _ => xs.length - (intOf i).toNat)
  case atStart => exact ⟨0, Nat.zero_le _, rfl, h0, KpZ.refl _ _⟩
  case round =>
    obtain ⟨k, hk, rfl, hJs, hnx⟩ := hrel
    by_cases hlt : k < xs.length
    · obtain ⟨fn, tmps, assign, body, hy, hR⟩ := HY.out _ k wr hJs (by simpa using hlt)
      have hlt2 : k < ys.length := by have := HL.out; omega
      rw [vAt_lt (by rw [HU0.out]; exact hlt), vAt_lt (by rw [HV0.out]; exact hlt2)] at hy
      obtain ⟨b1, o1, rfl, hb1, q1⟩ := K1.out (by intro h; rw [h] at hlt; simp at hlt)
      obtain ⟨b2, o2, rfl, hb2, q2⟩ := K2.out (by intro h; rw [h] at hlt2; simp at hlt2)
      have Q1 := hide q1; have Q2 := hide q2; clear q1 q2 K1 K2
      have d1 : wr.cell? ⟨b1, o1 + k, none⟩ = some (us[k]?.getD undef) := (World.cell?_of_block (w := W) (hnx _ hb1)).trans (Q1.out k hlt)
      have d2 : wr.cell? ⟨b2, o2 + k, none⟩ = some (vs[k]?.getD undef) := (World.cell?_of_block (w := W) (hnx _ hb2)).trans (Q2.out k hlt2)
      have hx1 := HU1.out k hlt
      have hx2 := HV1.out k hlt2
      generalize xs[k]?.getD [] = r1 at hx1
      generalize ys[k]?.getD [] = r2 at hx2
      obtain ⟨a5, c5, e5, _⟩ := hx1
      obtain ⟨a6, c6, e6, _⟩ := hx2
      rw [e5] at hy d1
      rw [e6] at hy d2
      clear e5 e6
      have e2 : wr.cell? ⟨B2, 0, none⟩ = some (.slice (some ⟨b2, o2, none⟩) ys.length c2) := (World.cell?_of_block (w := W) (hnx _ hZ2)).trans hc2
      have hl3 : (k : Int) < xs.length := by omega
      have hl4 : (k : Int) < ys.length := by omega
      gi_wp2
      refine hR.mono ?_
      rintro e W3 (⟨rfl, hJ3, hk3⟩ | ⟨rfl, hJx3⟩)
      · gi_wp2
        go_roundw
        case rel => exact ⟨k + 1, by omega, by simp, by rw [List.range_succ]; exact hJ3, hnx.trans hk3⟩
        case measure => simp [intOf]; omega
      · gi_wp2
        refine bodyPost_ret (results_none rfl _ _ _) rfl ?_
        exact ⟨⟨_, rfl⟩, .inr ⟨_, ⟨k + 1, by omega, List.range_succ.symm⟩, hJx3⟩⟩
    · obtain rfl : k = xs.length := by omega
      gi_wp2
      go_end0
      exact ⟨⟨_, rfl⟩, .inl ⟨_, rfl, hJs⟩⟩

theorem pairsRZ_stops (F : Fence) (n : Nat) (h7 : F.fn 93) (hro : F.round = none) (hn : 1 ≤ n) (B1 B2 : Nat) (Z : Nat → Prop) (v1 v2 : Value) (us vs : List Value) (xs ys : List (List Int)) (hl : xs.length = ys.length) (w : World)
    (hB1 : B1 < w.heap.size) (hB2 : B2 < w.heap.size) (hn₀ : ∀ k, Z k → k < w.heap.size) (hZ1 : Z B1) (hZ2 : Z B2) (hc1 : w.cell? ⟨B1, 0, none⟩ = some v1) (hc2 : w.cell? ⟨B2, 0, none⟩ = some v2) (i1 : IsRZ Z w v1 us xs) (i2 : IsRZ Z w v2 vs ys) :
    SeqStopsK F n Try.prog 93 #[.pointer (some ⟨B1, 0, none⟩), .pointer (some ⟨B2, 0, none⟩)] (fun x : Nat => #[vAt us x, vAt vs x]) (KpZ Z) (fun zs => zs = List.range xs.length) (fun _ => True) xs.length w :=
  fun l J Jx W hW _ _ hY h0 => (pairsRZ_in F n h7 hro hn l B1 B2 Z v1 v2 us vs xs ys hl J Jx hY W hZ1 hZ2 ((hW.cell (p := ⟨B1, 0, none⟩) hB1).trans hc1) ((hW.cell (p := ⟨B2, 0, none⟩) hB2).trans hc2) (i1.below hW hn₀) (i2.below hW hn₀) h0).mono
    fun e W' ⟨he, h⟩ => ⟨he, h.imp id fun ⟨pre, _, hp⟩ => ⟨pre, trivial, hp⟩⟩

end Go.Proofs.Ytlpoenoijmifdaa
