import Derived.Test.YtfbgnnelnpcbiaaDoorZt06
import Derived.Shelf.RegionOpen
set_option linter.unusedVariables false
set_option linter.unusedSimpArgs false
namespace Go.Proofs.YtfbgnnelnpcbiaaDoor
open Go.RowKit Go.Shelf

attribute [local go_sem] Oper.semAt_some

/-- The slice value v reads as integers; its cells lie in a block of Z. -/
def IsLZ (Z : Nat → Prop) (w : World) (v : Value) (xs : List Int) : Prop :=
  ∃ a cap, v = .slice a xs.length cap ∧ xs.length ≤ cap ∧ cap ≤ maxLen ∧ (∀ x ∈ xs, FB x) ∧
    (xs ≠ [] → ∃ b off, a = some ⟨b, off, none⟩ ∧ Z b ∧ ∀ i, i < xs.length → w.cell? ⟨b, off + i, none⟩ = some (.int .i64 (xs[i]?.getD 0)))
def IsRZ (Z : Nat → Prop) (w : World) (v : Value) (vs : List Value) (rows : List (List Int)) : Prop :=
  vs.length = rows.length ∧ (∀ i, i < rows.length → IsLZ Z w (vs[i]?.getD undef) (rows[i]?.getD [])) ∧
  ∃ a cap, v = .slice a rows.length cap ∧ rows.length ≤ cap ∧ cap ≤ maxLen ∧
    (rows ≠ [] → ∃ b off, a = some ⟨b, off, none⟩ ∧ Z b ∧ ∀ i, i < rows.length → w.cell? ⟨b, off + i, none⟩ = some (vs[i]?.getD undef))

def KpZ (Z : Nat → Prop) (W W' : World) : Prop := ∀ k, Z k → W'.heap[k]? = W.heap[k]?
theorem KpZ.refl (Z : Nat → Prop) (W : World) : KpZ Z W W := fun _ _ => rfl
theorem KpZ.trans {Z : Nat → Prop} {A B C : World} (h : KpZ Z A B) (k : KpZ Z B C) : KpZ Z A C := fun i hi => (k i hi).trans (h i hi)
theorem KpZ.put {Z : Nat → Prop} {w : World} (hZ : ∀ k, Z k → k < w.heap.size) (W : World) (l : Nat) (o o' : Obj) (hl : w.heap.size ≤ l) (_h : W.heap[l]? = some o) (_hc : o.isCells = false) (_hw : o.isWalk = false) : KpZ Z W (W.putObj l o') :=
  fun k hk => World.putObj_heap_other (by have := hZ k hk; omega)
theorem KpZ.of_below {Z : Nat → Prop} {B : Nat} {W W' : World} (h : Below B W W') (hZ : ∀ k, Z k → k < B) : KpZ Z W W' := fun k hk => h.block k (hZ k hk)

theorem IsLZ.keepZ {Z : Nat → Prop} {w w' : World} {v : Value} {xs : List Int} (h : IsLZ Z w v xs) (hk : KpZ Z w w') : IsLZ Z w' v xs := by
  obtain ⟨a, cap, hv, h1, h2, h3, h4⟩ := h
  refine ⟨a, cap, hv, h1, h2, h3, fun hne => ?_⟩
  obtain ⟨b, off, ha, hlt, hc⟩ := h4 hne
  exact ⟨b, off, ha, hlt, fun i hi => by rw [World.cell?_of_block (w := w) (hk b hlt)]; exact hc i hi⟩
theorem IsRZ.keepZ {Z : Nat → Prop} {w w' : World} {v : Value} {vs : List Value} {rows : List (List Int)} (h : IsRZ Z w v vs rows) (hk : KpZ Z w w') : IsRZ Z w' v vs rows := by
  obtain ⟨h0, h1, a, cap, hv, h2, h3, h4⟩ := h
  refine ⟨h0, fun i hi => (h1 i hi).keepZ hk, a, cap, hv, h2, h3, fun hne => ?_⟩
  obtain ⟨b, off, ha, hlt, hc⟩ := h4 hne
  exact ⟨b, off, ha, hlt, fun i hi => by rw [World.cell?_of_block (w := w) (hk b hlt)]; exact hc i hi⟩
theorem IsLZ.below {Z : Nat → Prop} {B : Nat} {w w' : World} {v : Value} {xs : List Int} (h : IsLZ Z w v xs) (hb : Below B w w') (hZ : ∀ k, Z k → k < B) : IsLZ Z w' v xs := h.keepZ (KpZ.of_below hb hZ)
theorem IsRZ.below {Z : Nat → Prop} {B : Nat} {w w' : World} {v : Value} {vs : List Value} {rows : List (List Int)} (h : IsRZ Z w v vs rows) (hb : Below B w w') (hZ : ∀ k, Z k → k < B) : IsRZ Z w' v vs rows := h.keepZ (KpZ.of_below hb hZ)
theorem IsLZ.more {Z Z' : Nat → Prop} {w : World} {v : Value} {xs : List Int} (h : IsLZ Z w v xs) (hZ : ∀ k, Z k → Z' k) : IsLZ Z' w v xs := by
  obtain ⟨a, cap, hv, h1, h2, h3, h4⟩ := h
  refine ⟨a, cap, hv, h1, h2, h3, fun hne => ?_⟩
  obtain ⟨b, off, ha, hlt, hc⟩ := h4 hne
  exact ⟨b, off, ha, hZ b hlt, hc⟩
/-- A slice whose block is none below B0. -/
theorem IsLB.toZ {B B0 : Nat} {w : World} {v : Value} {xs : List Int} (h : IsLB B w v xs) (hf : Fresh B0 v) : IsLZ (fun k => k < B ∧ B0 ≤ k) w v xs := by
  obtain ⟨a, cap, hv, h1, h2, h3, h4⟩ := h
  refine ⟨a, cap, hv, h1, h2, h3, fun hne => ?_⟩
  obtain ⟨b, off, ha, hlt, hc⟩ := h4 hne
  exact ⟨b, off, ha, ⟨hlt, hf b (by rw [hv, ha]; rfl)⟩, hc⟩
theorem Fresh.zero (v : Value) : Fresh 0 v := fun _ _ => Nat.zero_le _
theorem IsRB.toZ {B B0 : Nat} {w : World} {v : Value} {vs : List Value} {rows : List (List Int)} (h : IsRB B w v vs rows) (hf : Fresh B0 v) (hfs : ∀ i, i < vs.length → Fresh B0 (vs[i]?.getD undef)) : IsRZ (fun k => k < B ∧ B0 ≤ k) w v vs rows := by
  obtain ⟨h0, h1, a, cap, hv, h2, h3, h4⟩ := h
  refine ⟨h0, fun i hi => (h1 i hi).toZ (hfs i (by omega)), a, cap, hv, h2, h3, fun hne => ?_⟩
  obtain ⟨b, off, ha, hlt, hc⟩ := h4 hne
  exact ⟨b, off, ha, ⟨hlt, hf b (by rw [hv, ha]; rfl)⟩, hc⟩
theorem IsRZ.more {Z Z' : Nat → Prop} {w : World} {v : Value} {vs : List Value} {rows : List (List Int)} (h : IsRZ Z w v vs rows) (hZ : ∀ k, Z k → Z' k) : IsRZ Z' w v vs rows := by
  obtain ⟨h0, h1, a, cap, hv, h2, h3, h4⟩ := h
  refine ⟨h0, fun i hi => (h1 i hi).more hZ, a, cap, hv, h2, h3, fun hne => ?_⟩
  obtain ⟨b, off, ha, hlt, hc⟩ := h4 hne
  exact ⟨b, off, ha, hZ b hlt, hc⟩

set_option maxRecDepth 100000 in
set_option maxHeartbeats 2000000 in
/-- pairs of two lists of ints: the closure that is ranged over. -/
theorem pairsIZ_in (F : Fence) (n : Nat) (h7 : F.fn 41) (hro : F.round = none) (hn : 1 ≤ n) (l B1 B2 : Nat) (Z : Nat → Prop) (v1 v2 : Value) (xs ys : List Int) (hl : xs.length = ys.length) (J Jx : List Nat → World → Prop)
    (hY : ∀ pre x W, J pre W → pre.length < xs.length → YieldAt F (n - 1) Tryd.prog l #[.int .i64 (at_ xs x), .int .i64 (at_ ys x)] W fun e W' =>
      (e = .returned (.bool true) ∧ J (pre ++ [x]) W' ∧ KpZ Z W W') ∨ (e = .returned (.bool false) ∧ Jx (pre ++ [x]) W'))
    (W : World) (hZ1 : Z B1) (hZ2 : Z B2) (hc1 : W.cell? ⟨B1, 0, none⟩ = some v1) (hc2 : W.cell? ⟨B2, 0, none⟩ = some v2) (i1 : IsLZ Z W v1 xs) (i2 : IsLZ Z W v2 ys) (h0 : J [] W) :
    CallsIn F n Tryd.prog 41 #[.func (.yield l) #[] #[], .pointer (some ⟨B1, 0, none⟩), .pointer (some ⟨B2, 0, none⟩)] W fun e W' => (∃ v, e = .returned v) ∧
      ((∃ zs, zs = List.range xs.length ∧ J zs W') ∨ (∃ pre, (∃ k, k ≤ xs.length ∧ pre = List.range k) ∧ Jx pre W')) := by
  obtain ⟨a1, c1, rfl, l1, m1, _, k1⟩ := i1
  obtain ⟨a2, c2, rfl, l2, m2, _, k2⟩ := i2
  unfold maxLen at m1 m2
  have HL := hide hl; clear hl
  have K1 := hide k1; have K2 := hide k2; clear k1 k2
  have HY := hide hY; clear hY
  refine callsIn_of_wp Tryd.func41 rfl h7 ?_ hro
  simp only [Tryd.ntmps41, List.size_toArray, List.length_cons, List.length_nil, Nat.reduceAdd, Nat.reduceSub, Array.replicate_succ, Array.replicate_zero, List.push_toArray, List.append_toArray, List.nil_append, List.cons_append]
  gi_wp2
  gi_loopw [8] (fun i wr => ∃ k : Nat, k ≤ xs.length ∧ i = .int .i64 k ∧ J (List.range k) wr ∧ KpZ Z W wr)
    (fun i _ => xs.length - (intOf i).toNat)
  case atStart => exact ⟨0, Nat.zero_le _, rfl, h0, KpZ.refl _ _⟩
  case round =>
    obtain ⟨k, hk, rfl, hJs, hnx⟩ := hrel
    by_cases hlt : k < xs.length
    · obtain ⟨fn, tmps, assign, body, hy, hR⟩ := HY.out _ k wr hJs (by simpa using hlt)
      obtain ⟨b1, o1, rfl, hb1, q1⟩ := K1.out (by intro h; rw [h] at hlt; simp at hlt)
      obtain ⟨b2, o2, rfl, hb2, q2⟩ := K2.out (by intro h; have := HL.out; rw [h] at this; simp only [List.length_nil] at this; omega)
      have Q1 := hide q1; have Q2 := hide q2; clear q1 q2 K1 K2
      have d1 : wr.cell? ⟨b1, o1 + k, none⟩ = some (.int .i64 (at_ xs k)) := (World.cell?_of_block (w := W) (hnx _ hb1)).trans (Q1.out k hlt)
      have d2 : wr.cell? ⟨b2, o2 + k, none⟩ = some (.int .i64 (at_ ys k)) := (World.cell?_of_block (w := W) (hnx _ hb2)).trans (Q2.out k (by have := HL.out; omega))
      have e2 : wr.cell? ⟨B2, 0, none⟩ = some (.slice (some ⟨b2, o2, none⟩) ys.length c2) := (World.cell?_of_block (w := W) (hnx _ hZ2)).trans hc2
      have hl3 : (k : Int) < xs.length := by omega
      have hl4 : (k : Int) < ys.length := by have := HL.out; omega
      gi_wp2
      refine hR.mono ?_
      rintro e W3 (⟨rfl, hJ3, hk3⟩ | ⟨rfl, hJx3⟩)
      · gi_wp2
        go_roundw
        case rel => exact ⟨k + 1, by omega, by simp, by rw [List.range_succ]; exact hJ3, hnx.trans hk3⟩
        case measure => simp [intOf]; omega
      · gi_wp2
        refine bodyPost_ret (results_none rfl _ _ _) rfl ?_
        exact ⟨⟨_, rfl⟩, .inr ⟨_, ⟨k + 1, by omega, List.range_succ.symm⟩, hJx3⟩⟩
    · obtain rfl : k = xs.length := by omega
      gi_wp2
      go_end0
      exact ⟨⟨_, rfl⟩, .inl ⟨_, rfl, hJs⟩⟩

theorem pairsIZ_stops (F : Fence) (n : Nat) (h7 : F.fn 41) (hro : F.round = none) (hn : 1 ≤ n) (B1 B2 : Nat) (Z : Nat → Prop) (v1 v2 : Value) (xs ys : List Int) (hl : xs.length = ys.length) (w : World)
    (hB1 : B1 < w.heap.size) (hB2 : B2 < w.heap.size) (hn₀ : ∀ k, Z k → k < w.heap.size) (hZ1 : Z B1) (hZ2 : Z B2) (hc1 : w.cell? ⟨B1, 0, none⟩ = some v1) (hc2 : w.cell? ⟨B2, 0, none⟩ = some v2) (i1 : IsLZ Z w v1 xs) (i2 : IsLZ Z w v2 ys) :
    SeqStopsK F n Tryd.prog 41 #[.pointer (some ⟨B1, 0, none⟩), .pointer (some ⟨B2, 0, none⟩)] (fun x : Nat => #[.int .i64 (at_ xs x), .int .i64 (at_ ys x)]) (KpZ Z) (fun zs => zs = List.range xs.length) (fun _ => True) xs.length w :=
  fun l J Jx W hW _ _ hY h0 => (pairsIZ_in F n h7 hro hn l B1 B2 Z v1 v2 xs ys hl J Jx hY W hZ1 hZ2 ((hW.cell (p := ⟨B1, 0, none⟩) hB1).trans hc1) ((hW.cell (p := ⟨B2, 0, none⟩) hB2).trans hc2) (i1.below hW hn₀) (i2.below hW hn₀) h0).mono
    fun e W' ⟨he, h⟩ => ⟨he, h.imp id fun ⟨pre, _, hp⟩ => ⟨pre, trivial, hp⟩⟩

set_option maxRecDepth 100000 in
set_option maxHeartbeats 2000000 in
/-- pairs of two lists of rows: the closure that is ranged over. -/
theorem pairsRZ_in (F : Fence) (n : Nat) (h7 : F.fn 40) (hro : F.round = none) (hn : 1 ≤ n) (l B1 B2 : Nat) (Z : Nat → Prop) (v1 v2 : Value) (us vs : List Value) (xs ys : List (List Int)) (hl : xs.length = ys.length) (J Jx : List Nat → World → Prop)
    (hY : ∀ pre x W, J pre W → pre.length < xs.length → YieldAt F (n - 1) Tryd.prog l #[vAt us x, vAt vs x] W fun e W' =>
      (e = .returned (.bool true) ∧ J (pre ++ [x]) W' ∧ KpZ Z W W') ∨ (e = .returned (.bool false) ∧ Jx (pre ++ [x]) W'))
    (W : World) (hZ1 : Z B1) (hZ2 : Z B2) (hc1 : W.cell? ⟨B1, 0, none⟩ = some v1) (hc2 : W.cell? ⟨B2, 0, none⟩ = some v2) (i1 : IsRZ Z W v1 us xs) (i2 : IsRZ Z W v2 vs ys) (h0 : J [] W) :
    CallsIn F n Tryd.prog 40 #[.func (.yield l) #[] #[], .pointer (some ⟨B1, 0, none⟩), .pointer (some ⟨B2, 0, none⟩)] W fun e W' => (∃ v, e = .returned v) ∧
      ((∃ zs, zs = List.range xs.length ∧ J zs W') ∨ (∃ pre, (∃ k, k ≤ xs.length ∧ pre = List.range k) ∧ Jx pre W')) := by
  obtain ⟨hu0, hu1, a1, c1, rfl, l1, m1, k1⟩ := i1
  obtain ⟨hv0, hv1, a2, c2, rfl, l2, m2, k2⟩ := i2
  unfold maxLen at m1 m2
  have HL := hide hl; have HU0 := hide hu0; have HV0 := hide hv0; have HU1 := hide hu1; have HV1 := hide hv1
  have K1 := hide k1; have K2 := hide k2
  clear hl k1 k2 hu0 hv0 hu1 hv1
  have HY := hide hY; clear hY
  refine callsIn_of_wp Tryd.func40 rfl h7 ?_ hro
  simp only [Tryd.ntmps40, List.size_toArray, List.length_cons, List.length_nil, Nat.reduceAdd, Nat.reduceSub, Array.replicate_succ, Array.replicate_zero, List.push_toArray, List.append_toArray, List.nil_append, List.cons_append]
  gi_wp2
  gi_loopw [8] (fun i wr => ∃ k : Nat, k ≤ xs.length ∧ i = .int .i64 k ∧ J (List.range k) wr ∧ KpZ Z W wr)
    (fun i _ => xs.length - (intOf i).toNat)
  case atStart => exact ⟨0, Nat.zero_le _, rfl, h0, KpZ.refl _ _⟩
  case round =>
    obtain ⟨k, hk, rfl, hJs, hnx⟩ := hrel
    by_cases hlt : k < xs.length
    · obtain ⟨fn, tmps, assign, body, hy, hR⟩ := HY.out _ k wr hJs (by simpa using hlt)
      have hlt2 : k < ys.length := by have := HL.out; omega
      rw [vAt_lt (by rw [HU0.out]; exact hlt), vAt_lt (by rw [HV0.out]; exact hlt2)] at hy
      obtain ⟨b1, o1, rfl, hb1, q1⟩ := K1.out (by intro h; rw [h] at hlt; simp at hlt)
      obtain ⟨b2, o2, rfl, hb2, q2⟩ := K2.out (by intro h; rw [h] at hlt2; simp at hlt2)
      have Q1 := hide q1; have Q2 := hide q2; clear q1 q2 K1 K2
      have d1 : wr.cell? ⟨b1, o1 + k, none⟩ = some (us[k]?.getD undef) := (World.cell?_of_block (w := W) (hnx _ hb1)).trans (Q1.out k hlt)
      have d2 : wr.cell? ⟨b2, o2 + k, none⟩ = some (vs[k]?.getD undef) := (World.cell?_of_block (w := W) (hnx _ hb2)).trans (Q2.out k hlt2)
      have hx1 := HU1.out k hlt
      have hx2 := HV1.out k hlt2
      generalize xs[k]?.getD [] = r1 at hx1
      generalize ys[k]?.getD [] = r2 at hx2
      obtain ⟨a5, c5, e5, _⟩ := hx1
      obtain ⟨a6, c6, e6, _⟩ := hx2
      rw [e5] at hy d1
      rw [e6] at hy d2
      clear e5 e6
      have e2 : wr.cell? ⟨B2, 0, none⟩ = some (.slice (some ⟨b2, o2, none⟩) ys.length c2) := (World.cell?_of_block (w := W) (hnx _ hZ2)).trans hc2
      have hl3 : (k : Int) < xs.length := by omega
      have hl4 : (k : Int) < ys.length := by omega
      gi_wp2
      refine hR.mono ?_
      rintro e W3 (⟨rfl, hJ3, hk3⟩ | ⟨rfl, hJx3⟩)
      · gi_wp2
        go_roundw
        case rel => exact ⟨k + 1, by omega, by simp, by rw [List.range_succ]; exact hJ3, hnx.trans hk3⟩
        case measure => simp [intOf]; omega
      · gi_wp2
        refine bodyPost_ret (results_none rfl _ _ _) rfl ?_
        exact ⟨⟨_, rfl⟩, .inr ⟨_, ⟨k + 1, by omega, List.range_succ.symm⟩, hJx3⟩⟩
    · obtain rfl : k = xs.length := by omega
      gi_wp2
      go_end0
      exact ⟨⟨_, rfl⟩, .inl ⟨_, rfl, hJs⟩⟩

theorem pairsRZ_stops (F : Fence) (n : Nat) (h7 : F.fn 40) (hro : F.round = none) (hn : 1 ≤ n) (B1 B2 : Nat) (Z : Nat → Prop) (v1 v2 : Value) (us vs : List Value) (xs ys : List (List Int)) (hl : xs.length = ys.length) (w : World)
    (hB1 : B1 < w.heap.size) (hB2 : B2 < w.heap.size) (hn₀ : ∀ k, Z k → k < w.heap.size) (hZ1 : Z B1) (hZ2 : Z B2) (hc1 : w.cell? ⟨B1, 0, none⟩ = some v1) (hc2 : w.cell? ⟨B2, 0, none⟩ = some v2) (i1 : IsRZ Z w v1 us xs) (i2 : IsRZ Z w v2 vs ys) :
    SeqStopsK F n Tryd.prog 40 #[.pointer (some ⟨B1, 0, none⟩), .pointer (some ⟨B2, 0, none⟩)] (fun x : Nat => #[vAt us x, vAt vs x]) (KpZ Z) (fun zs => zs = List.range xs.length) (fun _ => True) xs.length w :=
  fun l J Jx W hW _ _ hY h0 => (pairsRZ_in F n h7 hro hn l B1 B2 Z v1 v2 us vs xs ys hl J Jx hY W hZ1 hZ2 ((hW.cell (p := ⟨B1, 0, none⟩) hB1).trans hc1) ((hW.cell (p := ⟨B2, 0, none⟩) hB2).trans hc2) (i1.below hW hn₀) (i2.below hW hn₀) h0).mono
    fun e W' ⟨he, h⟩ => ⟨he, h.imp id fun ⟨pre, _, hp⟩ => ⟨pre, trivial, hp⟩⟩

end Go.Proofs.YtfbgnnelnpcbiaaDoor

namespace Go.Proofs.YtfbgnnelnpcbiaaDoor
open Go.RowKit Go.Shelf

attribute [local go_sem] Oper.semAt_some

/-- A piece of code that does not panic. -/
def NoPanic (Q : Exit → Act → World → Prop) : Exit → Act → World → Prop
  | .panic _, _, _ => False
  | e, a, w => Q e a w
theorem wpIn_noPanic {F : Fence} {n : Nat} {P : Program} {c : Code} {Q : Exit → Act → World → Prop} {a : Act} {w : World} (h : c.wpIn F n P (NoPanic Q) a w) : c.wpIn F n P Q a w :=
  Code.wpIn_mono (fun e a w hq => by cases e <;> first | exact hq | exact hq.elim) h

def volV (S W : List Int) (H : List (List Int)) : Int := if tabE S W H = 0 then 2 * sideF (gridL S W) H else 0

set_option maxRecDepth 100000 in
set_option maxHeartbeats 2000000 in
theorem Volume_bad (vS vW vH : Value) (vs : List Value) (S W : List Int) (H : List (List Int)) (w : World) (i1 : IsL w vS S) (i2 : IsL w vW W) (i3 : IsRB w.heap.size w vH vs H) (h : tabE S W H = 13) :
    Calls Tryd.prog 6 #[.agg #[vS, vW, vH]] w fun e w' => e = .returned (.tuple #[.int .i64 0, .int .i64 13]) ∧ Below w.heap.size w w' := by
  obtain ⟨a1, c1, rfl, _⟩ := id i1
  obtain ⟨a2, c2, rfl, _⟩ := id i2
  obtain ⟨_, _, a3, c3, rfl, _⟩ := id i3
  have hb0 : ∀ o : Obj, Below w.heap.size w (w.alloc o) := fun o => (Below.refl _ _).alloc (Nat.le_refl _) _
  have hct := fun o => CheckTable_w _ _ _ vs S W H (w.alloc o) (i1.below (hb0 o)) (i2.below (hb0 o)) ((i3.below (hb0 o)).more (by simp))
  rw [h] at hct
  have HCT := hide hct; clear hct
  go_enter Tryd.func6, Tryd.ntmps6
  go_wp2_with (go_at_call 13; refine (HCT.out _).mono ?_; rintro e w1 ⟨rfl, hb1⟩; obtain ⟨hc1, hf1⟩ := bcell hb1; have hz1 := hb1.size; (try simp at hz1); have hs1_0 : w.heap.size < w1.heap.size := (by omega))
  go_ret2
  exact ⟨rfl, (by repeat (first | exact Below.refl _ _ | assumption | refine Below.alloc ?_ (by first | omega | (simp; omega) | simp) _ | refine Below.setCell ?_ (by first | omega | (simp; omega) | simp) _ | refine below_drewN ?_ _ | refine Below.drew ?_ | refine back ?_ (by assumption)))⟩

theorem vAt_row {B : Nat} {w : World} {v : Value} {vs : List Value} {rows : List (List Int)} (h : IsRB B w v vs rows) (i : Nat) : IsLB B w (vAt vs i) (rowAt rows i) := by
  obtain ⟨h0, h1, _⟩ := h
  by_cases hi : i < rows.length
  · rw [vAt_lt (by omega)]; exact h1 i hi
  · have e1 : vAt vs i = .slice none 0 0 := by unfold vAt; rw [if_neg (by omega)]
    have e2 : rowAt rows i = [] := by unfold rowAt; rw [List.getElem?_eq_none (by omega)]; rfl
    rw [e1, e2]; exact IsLB.nil _ _

theorem vAt_rowZ {Z : Nat → Prop} {w : World} {v : Value} {vs : List Value} {rows : List (List Int)} (h : IsRZ Z w v vs rows) (i : Nat) : IsLZ Z w (vAt vs i) (rowAt rows i) := by
  obtain ⟨h0, h1, _⟩ := h
  by_cases hi : i < rows.length
  · rw [vAt_lt (by omega)]; exact h1 i hi
  · have e1 : vAt vs i = .slice none 0 0 := by unfold vAt; rw [if_neg (by omega)]
    have e2 : rowAt rows i = [] := by unfold rowAt; rw [List.getElem?_eq_none (by omega)]; rfl
    rw [e1, e2]; exact ⟨none, 0, rfl, Nat.le_refl _, Nat.zero_le _, by simp, fun h => absurd rfl h⟩

/-- From W0 on the blocks of Z have not changed. -/
def KpS (Z : Nat → Prop) (W0 W : World) : Prop := W0.heap.size ≤ W.heap.size ∧ KpZ Z W0 W
theorem ownFrom_kpS {β : Type} {Z : Nat → Prop} {W0 : World} {B : Nat} (hZ : ∀ k, Z k → k < W0.heap.size ∧ k < B) : OwnFrom B (fun (_ : β) W => KpS Z W0 W) :=
  fun _ W W' row hs hg hr => ⟨Nat.le_trans hs.1 hg.size, fun k hk => (hg.block k (by have := (hZ k hk).1; have := hs.1; omega) (fun e => by have := (hr k e.symm).1; have := (hZ k hk).2; omega)).trans (hs.2 k hk)⟩

set_option maxRecDepth 100000 in
set_option maxHeartbeats 8000000 in
theorem Volume_in (F : Fence) (n : Nat) (h57 : F.fn 6) (h81 : F.fn 13) (h83 : F.fn 17) (h82 : F.fn 20) (h93 : F.fn 40) (h84 : F.fn 21) (h94 : F.fn 41) (hro : F.round = none) (hn : 6 ≤ n) (hF : Hid (F = Fence.wide))
    (a1 a2 a3 : Option Addr) (c1 c2 c3 : Nat) (vs : List Value) (S W : List Int) (H : List (List Int)) (w : World) (i1 : IsL w (.slice a1 S.length c1) S) (i2 : IsL w (.slice a2 W.length c2) W) (i3 : IsRB w.heap.size w (.slice a3 H.length c3) vs H) (h : tabE S W H = 0)
    (HCT : Hid (∀ o : Obj, CallsIn F (n - 1) Tryd.prog 13 #[.agg #[.slice a1 S.length c1, .slice a2 W.length c2, .slice a3 H.length c3]] (w.alloc o) fun e w' => e = .returned (.int .i64 0) ∧ Below (w.alloc o).heap.size (w.alloc o) w'))
    (HGR : Hid (∀ w0 : World, Below w.heap.size w w0 → CallsIn F (n - 1) Tryd.prog 17 #[.slice a1 S.length c1, .slice a2 W.length c2] w0 fun e w' => ∃ v, e = .returned v ∧ (∃ vs, IsRB w'.heap.size w' v vs (gridL S W) ∧ Fresh w0.heap.size v ∧ ∀ i, i < vs.length → Fresh w0.heap.size (vs[i]?.getD undef)) ∧ Below w0.heap.size w0 w')) :
    CallsIn F n Tryd.prog 6 #[.agg #[.slice a1 S.length c1, .slice a2 W.length c2, .slice a3 H.length c3]] w fun e w' => e = .returned (.tuple #[.int .i64 (2 * sideF (gridL S W) H), .int .i64 0]) ∧ Below w.heap.size w w' := by
  have h1 : 1 ≤ n := by omega
  have hmix : (Tryd.prog).follows .mixedOrders = true := by kernel_rfl
  refine callsIn_of_wp_marks Tryd.func6 rfl h57 ?_ hro
  simp only [Tryd.ntmps6, List.size_toArray, List.length_cons, List.length_nil, Nat.reduceAdd, Nat.reduceSub, Array.replicate_succ, Array.replicate_zero, List.push_toArray, List.append_toArray, List.nil_append, List.cons_append]
  gi_wp2_with (gi_at_call 13; refine (HCT.out _).mono ?_; rintro e w1 ⟨rfl, hb1⟩; obtain ⟨hc1, hf1⟩ := bcell hb1; have hz1 := hb1.size; (try simp at hz1); have hs1_0 : w.heap.size < w1.heap.size := (by omega))
  have hb1' : Below w.heap.size w w1 := (by repeat (first | exact Below.refl _ _ | assumption | refine Below.alloc ?_ (by first | omega | (simp; omega) | simp) _ | refine Below.setCell ?_ (by first | omega | (simp; omega) | simp) _ | refine below_drewN ?_ _ | refine Below.drew ?_ | refine back ?_ (by assumption)))
  have HB := hide hb1'
  have HGR2 : Hid (∀ w0 : World, Below w.heap.size w w0 → CallsIn F (n - 1) Tryd.prog 17 #[.slice a1 S.length c1, .slice a2 W.length c2] w0 fun e w' => ∃ a5 c5 gs, e = .returned (.slice a5 (gridL S W).length c5) ∧ Hid (IsRZ (fun k => k < w'.heap.size ∧ w0.heap.size ≤ k) w' (.slice a5 (gridL S W).length c5) gs (gridL S W)) ∧ Below w0.heap.size w0 w') := by
    intro w0 hb
    refine (HGR.out w0 hb).mono ?_
    rintro e w' ⟨v, he, ⟨gs, hg, hf1, hf2⟩, hb'⟩
    obtain ⟨a5, c5, hv, _⟩ := hg.2.2
    rw [hv] at hg he hf1
    exact ⟨a5, c5, gs, he, hg.toZ hf1 hf2, hb'⟩
  clear HGR
  have hF' := hF.out
  clear hF
  subst hF'
  rename_i K1 K2 Q1 hK1 hK2
  have hz1 : w.heap.size + 1 ≤ w1.heap.size := by have := hb1.size; simpa using this
  have tail : ∀ (w2 : World) (a5 : Option Addr) (c5 : Nat) (gs : List Value), Hid (IsRZ (fun k => k < w2.heap.size ∧ (w1.alloc (.cells #[.int .i64 0] 3)).drew.heap.size ≤ k) w2 (.slice a5 (gridL S W).length c5) gs (gridL S W)) → Below (w1.alloc (.cells #[.int .i64 0] 3)).drew.heap.size (w1.alloc (.cells #[.int .i64 0] 3)).drew w2 →
      K2 { tmps := #[.agg #[.slice a1 S.length c1, .slice a2 W.length c2, .slice a3 H.length c3], .pointer (some ⟨w.heap.size, 0, none⟩), .int .i64 0, .int .i64 0, .int .i64 0, .pointer (some ⟨w1.heap.size, 0, none⟩), undef, undef, undef, undef, .agg #[.slice a1 S.length c1, .slice a2 W.length c2, .slice a3 H.length c3], .int .i64 0, .int .i64 0, .bool false, undef, .pointer (some ⟨w.heap.size, 0, none⟩), .slice a1 S.length c1, .pointer (some ⟨w.heap.size, 1, none⟩), .slice a2 W.length c2, .slice a5 (gridL S W).length c5, .pointer (some ⟨w.heap.size, 2, none⟩), .slice a3 H.length c3, .func (.func 40) #[] #[.pointer (some ⟨w2.heap.size, 0, none⟩), .pointer (some ⟨w2.heap.size + 1, 0, none⟩)], undef, undef, undef, undef, undef, undef, undef, undef, undef, undef, undef, undef, undef, undef], defers := [] } ((w2.alloc (.cells #[.slice a5 (gridL S W).length c5] 23)).alloc (.cells #[.slice a3 H.length c3] 23)) := by
    intro w2 a5 c5 gs hg hb2
    refine hK2 _ _ ?_
    gi_wp2
    have hD : (w1.alloc (.cells #[.int .i64 0] 3)).drew.heap.size = w1.heap.size + 1 := by show (w1.alloc _).heap.size = _; simp
    have hz2 : w1.heap.size + 1 ≤ w2.heap.size := by have := hb2.size; rwa [hD] at this
    rw [hD] at hg hb2
    have hB2 : Below w.heap.size w w2 := (hb1'.alloc hb1'.size _).drew.trans (hb2.mono (by omega))
    have bS0 : Boxed w2 w1.heap.size 3 (.int .i64 0) := (hb2.block _ (by omega)).trans (Boxed.new w1 3 (.int .i64 0))
    obtain ⟨W0, hW0⟩ : ∃ W0, (w2.alloc (.cells #[.slice a5 (gridL S W).length c5] 23)).alloc (.cells #[.slice a3 H.length c3] 23) = W0 := ⟨_, rfl⟩
    have hsz : W0.heap.size = w2.heap.size + 2 := by rw [← hW0]; simp
    have hbW : Below w2.heap.size w2 W0 := by rw [← hW0]; exact ((Below.refl _ _).alloc (Nat.le_refl _) _).alloc (by simp) _
    have bS : Boxed W0 w1.heap.size 3 (.int .i64 0) := (hbW.block _ (by omega)).trans bS0
    have bP : Boxed W0 w2.heap.size 23 (.slice a5 (gridL S W).length c5) := by rw [← hW0]; exact (Boxed.new w2 _ _).alloc _
    have bQ : Boxed W0 (w2.heap.size + 1) 23 (.slice a3 H.length c3) := by
      rw [← hW0]
      have := Boxed.new (w2.alloc (.cells #[.slice a5 (gridL S W).length c5] 23)) 23 (.slice a3 H.length c3)
      rwa [World.size_alloc] at this
    have hB0 : Below w.heap.size w W0 := hB2.trans (hbW.mono hB2.size)
    rw [hW0]
    clear hW0
    have hZlt : ∀ k, (k < W0.heap.size ∧ k ≠ w1.heap.size) → k < W0.heap.size := fun k hk => hk.1
    have hgZ : IsRZ (fun k => k < W0.heap.size ∧ k ≠ w1.heap.size) W0 (.slice a5 (gridL S W).length c5) gs (gridL S W) := (IsRZ.below hg.out hbW (fun k hk => hk.1)).more (fun k hk => by omega)
    have hhZ : IsRZ (fun k => k < W0.heap.size ∧ k ≠ w1.heap.size) W0 (.slice a3 H.length c3) vs H := (IsRZ.below (i3.toZ (Fresh.zero _) (fun _ _ => Fresh.zero _)) hB0 (fun k hk => hk.1)).more (fun k hk => by omega)
    have hlen : (gridL S W).length = H.length := by rw [gridL_len]; exact (tab_ok h).2.2.2.2.1.symm
    have hN : (gridL S W).length ≤ 9 := by rw [gridL_len]; exact (tab_ok h).1.hi
    have HG := hide hgZ; have HH := hide hhZ; have HLEN := hide hlen
    clear hgZ hhZ hlen hg
    refine wpIn_rangeFunc_ownH hro h1 (gf := 40) (lb := #[.pointer (some ⟨w2.heap.size, 0, none⟩), .pointer (some ⟨w2.heap.size + 1, 0, none⟩)]) rfl h93 (enters_of Tryd.func40 (by kernel_rfl) rfl)
      (pairsRZ_stops Fence.wide (n - 1) h93 hro (by omega) w2.heap.size (w2.heap.size + 1) (fun k => k < W0.heap.size ∧ k ≠ w1.heap.size) _ _ gs vs (gridL S W) H HLEN.out W0 (by omega) (by omega) hZlt (by omega) (by omega) bP.cell bQ.cell HG.out HH.out) KpZ.trans (KpZ.put hZlt) (Below.refl _ _) (fun _ => rfl)
      (fun (pre : List Nat) W' => (Boxed W' w1.heap.size 3 (.int .i64 (pre.foldl (addF (rowSum (gridL S W) H)) 0)) ∧ KpS (fun k => k < W0.heap.size ∧ k ≠ w1.heap.size) W0 W') ∧ Below w.heap.size w W')
      (fun _ _ _ => False)
      (OwnFrom.and (OwnFrom.and (Own.from (boxed_own _ _ _) _) (ownFrom_kpS (fun k hk => ⟨hk.1, hk.1⟩))) (ownFrom_below (Nat.le_refl _) (by omega)))
      (fun _ _ _ _ _ hs _ _ => hs)
      ⟨⟨bS, Nat.le_refl _, KpZ.refl _ _⟩, hB0⟩
      (fun (x : Nat) a' _ => a' = { tmps := #[.agg #[.slice a1 S.length c1, .slice a2 W.length c2, .slice a3 H.length c3], .pointer (some ⟨w.heap.size, 0, none⟩), .int .i64 0, .int .i64 0, .int .i64 0, .pointer (some ⟨w1.heap.size, 0, none⟩), vAt gs x, vAt vs x, undef, undef, .agg #[.slice a1 S.length c1, .slice a2 W.length c2, .slice a3 H.length c3], .int .i64 0, .int .i64 0, .bool false, undef, .pointer (some ⟨w.heap.size, 0, none⟩), .slice a1 S.length c1, .pointer (some ⟨w.heap.size, 1, none⟩), .slice a2 W.length c2, .slice a5 (gridL S W).length c5, .pointer (some ⟨w.heap.size, 2, none⟩), .slice a3 H.length c3, .func (.func 40) #[] #[.pointer (some ⟨w2.heap.size, 0, none⟩), .pointer (some ⟨w2.heap.size + 1, 0, none⟩)], vAt gs x, vAt vs x, undef, undef, undef, undef, undef, undef, undef, undef, undef, undef, undef, undef], defers := [] })
      (fun _ _ _ _ _ _ hs _ _ => hs)
      ?assign ?body ?done ?stop
    case assign =>
      rintro l pre x W' K hi hK
      gi_wp2
      exact hK _ _ (KeepsFrom.refl _ _) (KpZ.refl _ _) hi rfl
    case body =>
      rintro l pre x a' W' hl ⟨r, hr⟩ ⟨⟨bS1, hKS⟩, hB1⟩ rfl hlt
      have hgx := (vAt_rowZ HG.out x).keepZ hKS.2
      have hhx := (vAt_rowZ HH.out x).keepZ hKS.2
      obtain ⟨a7, c7, e7, _⟩ := id hgx
      obtain ⟨a8, c8, e8, _⟩ := id hhx
      rw [e7] at hgx
      rw [e8] at hhx
      rw [e7, e8]
      have h1' : 1 ≤ n - 1 - 1 := by omega
      have hWz := hKS.1
      gi_wp2_with (gi_at_call 21; refine (CallsIn.inRound l (pairsI_call Fence.wide (n - 1 - 1 - 1) h84 hro _ _ _ _ _ _ _ _ rfl rfl _)).mono ?_; rintro e w' ⟨rfl, rfl⟩)
      obtain ⟨V0, hV0⟩ : ∃ V0, (W'.alloc (.cells #[.slice a7 (rowAt (gridL S W) x).length c7] 22)).alloc (.cells #[.slice a8 (rowAt H x).length c8] 22) = V0 := ⟨_, rfl⟩
      have vsz : V0.heap.size = W'.heap.size + 2 := by rw [← hV0]; simp
      have hbV : Below W'.heap.size W' V0 := by rw [← hV0]; exact ((Below.refl _ _).alloc (Nat.le_refl _) _).alloc (by simp) _
      have b1 : Boxed V0 W'.heap.size 22 (.slice a7 (rowAt (gridL S W) x).length c7) := by rw [← hV0]; exact (Boxed.new W' _ _).alloc _
      have b2 : Boxed V0 (W'.heap.size + 1) 22 (.slice a8 (rowAt H x).length c8) := by
        rw [← hV0]
        have := Boxed.new (W'.alloc (.cells #[.slice a7 (rowAt (gridL S W) x).length c7] 22)) 22 (.slice a8 (rowAt H x).length c8)
        rwa [World.size_alloc] at this
      have hkf : KeepsFrom W0.heap.size W' V0 := by rw [← hV0]; exact ((KeepsOthers.alloc _ _).trans (KeepsOthers.alloc _ _)).from _
      rw [hV0]
      clear hV0
      have bS2 : Boxed V0 w1.heap.size 3 _ := (hbV.block _ (by omega)).trans bS1
      have hr' : V0.heap[l]? = some (.loop r) := (hbV.block l (Array.getElem?_eq_some_iff.1 hr).1).trans hr
      have hiZ : ∀ k, (k < V0.heap.size ∧ k ≠ w1.heap.size) → k < V0.heap.size := fun k hk => hk.1
      have hgx2 : IsLZ (fun k => k < V0.heap.size ∧ k ≠ w1.heap.size) V0 _ _ := (IsLZ.below hgx hbV (fun k hk => by omega)).more (fun k hk => by omega)
      have hhx2 : IsLZ (fun k => k < V0.heap.size ∧ k ≠ w1.heap.size) V0 _ _ := (IsLZ.below hhx hbV (fun k hk => by omega)).more (fun k hk => by omega)
      have hrl := row_len h x
      have hsl := side_lim h pre (by omega)
      obtain ⟨s0, hs0⟩ : ∃ s0, pre.foldl (addF (rowSum (gridL S W) H)) 0 = s0 := ⟨_, rfl⟩
      have hsl2 : -3870720000000000000 ≤ s0 ∧ s0 ≤ 3870720000000000000 := by
        have := addF_lim (rowSum (gridL S W) H) 483840000000000000 (by omega) (rowSum_lim h) pre 0 0 (by omega) (by omega)
        rw [hs0] at this; omega
      rw [hs0] at bS2
      have HS0 := hide hs0; have HRL := hide hrl
      clear hs0 hrl hsl
      refine wpIn_rangeFunc_ownN (l₀ := l) (r₀ := r) rfl hr' h1' (gf := 41) (lb := #[.pointer (some ⟨W'.heap.size, 0, none⟩), .pointer (some ⟨W'.heap.size + 1, 0, none⟩)]) rfl h94 (enters_of Tryd.func41 (by kernel_rfl) rfl)
        ((pairsIZ_stops Fence.wide (n - 1 - 1 - 1) h94 hro (by omega) W'.heap.size (W'.heap.size + 1) (fun k => k < V0.heap.size ∧ k ≠ w1.heap.size) _ _ (rowAt (gridL S W) x) (rowAt H x) HRL.out.1 V0 (by omega) (by omega) hiZ (by omega) (by omega) b1.cell b2.cell hgx2 hhx2).inRound l) KpZ.trans (KpZ.put hiZ) (Below.refl _ _) (fun _ => rfl)
        (fun (pre' : List Nat) V => (Boxed V w1.heap.size 3 (.int .i64 (pre'.foldl (addF (cellP (gridL S W) H x)) s0)) ∧ KpS (fun k => k < V0.heap.size ∧ k ≠ w1.heap.size) V0 V) ∧ (Below w.heap.size W' V ∧ KeepsFrom W0.heap.size W' V))
        (fun _ _ _ => False)
        (OwnFrom.and (OwnFrom.and (Own.from (boxed_own _ _ _) _) (ownFrom_kpS (fun k hk => ⟨hk.1, hk.1⟩))) (OwnFrom.and (ownFrom_below hB1.size (by omega)) (ownFrom_keepsFrom (by omega))))
        (fun _ _ _ _ _ hs _ _ => hs)
        ⟨⟨bS2, Nat.le_refl _, KpZ.refl _ _⟩, hbV.mono hB1.size, hkf⟩
        (fun (y : Nat) a'' _ => a'' = { tmps := #[.agg #[.slice a1 S.length c1, .slice a2 W.length c2, .slice a3 H.length c3], .pointer (some ⟨w.heap.size, 0, none⟩), .int .i64 0, .int .i64 0, .int .i64 0, .pointer (some ⟨w1.heap.size, 0, none⟩), .slice a7 (rowAt (gridL S W) x).length c7, .slice a8 (rowAt H x).length c8, .int .i64 (at_ (rowAt (gridL S W) x) y), .int .i64 (at_ (rowAt H x) y), .agg #[.slice a1 S.length c1, .slice a2 W.length c2, .slice a3 H.length c3], .int .i64 0, .int .i64 0, .bool false, undef, .pointer (some ⟨w.heap.size, 0, none⟩), .slice a1 S.length c1, .pointer (some ⟨w.heap.size, 1, none⟩), .slice a2 W.length c2, .slice a5 (gridL S W).length c5, .pointer (some ⟨w.heap.size, 2, none⟩), .slice a3 H.length c3, .func (.func 40) #[] #[.pointer (some ⟨w2.heap.size, 0, none⟩), .pointer (some ⟨w2.heap.size + 1, 0, none⟩)], .slice a7 (rowAt (gridL S W) x).length c7, .slice a8 (rowAt H x).length c8, .slice a7 (rowAt (gridL S W) x).length c7, .slice a8 (rowAt H x).length c8, .func (.func 41) #[] #[.pointer (some ⟨W'.heap.size, 0, none⟩), .pointer (some ⟨W'.heap.size + 1, 0, none⟩)], .int .i64 (at_ (rowAt (gridL S W) x) y), .int .i64 (at_ (rowAt H x) y), undef, undef, undef, undef, undef, undef, undef], defers := [] })
        (fun _ _ _ _ _ _ hs _ _ => hs)
        ?assign2 ?body2 ?done2 ?stop2
      case assign2 =>
        rintro l2 pre' y V K hi hK
        gi_wp2
        exact hK _ _ (KeepsFrom.refl _ _) (KpZ.refl _ _) hi rfl
      case body2 =>
        rintro l2 pre' y a'' V _ _ ⟨⟨bS3, hKV⟩, hBV, hFV⟩ rfl hlt2
        have cS := bS3.cell
        have fS := bS3.frozen
        have hcl := cellP_lim h x y
        have hsn := addF_snoc (cellP (gridL S W) H x) pre' y s0
        have hps := addF_lim (cellP (gridL S W) H x) 69120000000000000 (by omega) (cellP_lim h x) pre' s0 3870720000000000000 hsl2.1 hsl2.2
        have hl7 := HRL.out.2
        obtain ⟨t0, ht0⟩ : ∃ t0, pre'.foldl (addF (cellP (gridL S W) H x)) s0 = t0 := ⟨_, rfl⟩
        rw [ht0] at hsn hps cS
        have hcp : cellP (gridL S W) H x y = at_ (rowAt (gridL S W) x) y * at_ (rowAt H x) y := rfl
        rw [hcp] at hcl hsn
        obtain ⟨p, hp⟩ : ∃ p, at_ (rowAt (gridL S W) x) y = p := ⟨_, rfl⟩
        obtain ⟨q, hq⟩ : ∃ q, at_ (rowAt H x) y = q := ⟨_, rfl⟩
        rw [hp, hq] at hcl hsn ⊢
        have hps2 : -4300000000000000000 ≤ t0 ∧ t0 ≤ 4300000000000000000 := by omega
        obtain ⟨hps3, hps4⟩ := hps2
        obtain ⟨hcl1, hcl2⟩ := hcl
        have HSN := hide hsn
        clear hsn hcp hp hq ht0 hps
        gi_wp2
        refine ⟨(KeepsOthers.setCell _ _ _).from _, fun k hk => Below.heap_setCell _ _ _ _ hk.2, ⟨⟨?_, Nat.le_trans hKV.1 (by simp [World.setCell]), fun k hk => (Below.heap_setCell _ _ _ _ hk.2).trans (hKV.2 k hk)⟩, hBV.setCell (p := ⟨w1.heap.size, 0, none⟩) (by show w.heap.size ≤ w1.heap.size; omega) _, hFV.trans ((KeepsOthers.setCell _ _ _).from _)⟩⟩
        rw [HSN.out]
        exact bS3.set _
      case done2 =>
        rintro zs V rfl ⟨⟨bS3, hKV⟩, hBV, hFV⟩
        gi_wp2
        refine ⟨hFV, fun k hk => (hKV.2 k ⟨by omega, hk.2⟩).trans (hbV.block k (by omega)), ⟨?_, Nat.le_trans hWz (Nat.le_trans (by omega) hKV.1), fun k hk => ((hKV.2 k ⟨by omega, hk.2⟩).trans (hbV.block k (by omega))).trans (hKS.2 k hk)⟩, hB1.trans hBV⟩
        rw [addF_snoc, HS0.out]
        have e := addF_shift (cellP (gridL S W) H x) (List.range (rowAt (gridL S W) x).length) s0
        rw [e] at bS3
        exact bS3
      case stop2 =>
        rintro c pre' V _ hf
        exact hf.elim
    case done =>
      rintro D zs W' hD rfl ⟨⟨bS1, hKS⟩, hB1⟩ hK
      have cS := bS1.cell
      have hsl := side_lim h (List.range (gridL S W).length) (by rw [List.length_range]; exact hN)
      have hsd : (List.range (gridL S W).length).foldl (addF (rowSum (gridL S W) H)) 0 = sideF (gridL S W) H := rfl
      rw [hsd] at cS hsl
      obtain ⟨hsl1, hsl2⟩ := hsl
      clear hsd
      gi_wp2
      refine ⟨by simp, .inl ⟨_, _, rfl, run_takeDeferred hK, ?_⟩⟩
      exact ⟨_, results_tmp2 rfl _ _ _, rfl, hB1.trans (belowK_b (w := w) (Nat.le_refl _) W' D _ _ (by omega) hK rfl rfl)⟩
    case stop =>
      rintro D c pre W' _ _ hf _
      exact hf.elim
  refine wpIn_noPanic ?_
  gi_region_with_o (first | (gi_at_call 17; refine (HGR2.out _ (by exact (Below.alloc HB.out (by omega) _).drew)).mono ?_; rintro e w2 ⟨a5, c5, gs, rfl, hg, hb2⟩; obtain ⟨hc2, hf2⟩ := bcell hb2; have hz2 := hb2.size; (try simp at hz2)) | (gi_at_call 20; refine (pairsR_call Fence.wide _ h82 hro _ _ _ _ _ _ _ _ rfl rfl _).mono ?_; rintro e w' ⟨rfl, rfl⟩))
  all_goals (simp only [NoPanic]; exact tail _ _ _ _ hg hb2)
end Go.Proofs.YtfbgnnelnpcbiaaDoor
