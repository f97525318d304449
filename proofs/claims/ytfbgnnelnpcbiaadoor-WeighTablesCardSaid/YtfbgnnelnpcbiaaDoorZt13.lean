import Derived.Test.YtfbgnnelnpcbiaaDoorZt07
import Derived.Test.YtfbgnnelnpcbiaaDoorZt10
import Derived.Deep.RegionHeld3
import Derived.Deep.RegionLawGrows
import Derived.IntWalk
import Derived.Lib.AppendZerosOnto
set_option linter.unusedVariables false
set_option linter.unusedSimpArgs false
namespace Go.Proofs.YtfbgnnelnpcbiaaDoor
open Go.RowKit Go.Shelf

/-- pairs of a list of ints and a list of rows: what the call gives. -/
theorem pairsM_call (F : Fence) (n : Nat) (h5 : F.fn 25) (hro : F.round = none) (v1 v2 : Value) (a1 a2 : Option Addr) (n1 n2 c1 c2 : Nat) (e1 : v1 = .slice a1 n1 c1) (e2 : v2 = .slice a2 n2 c2) (w : World) :
    CallsIn F n Tryd.prog 25 #[v1, v2] w fun e w' => e = .returned (.func (.func 45) #[] #[.pointer (some ⟨w.heap.size, 0, none⟩), .pointer (some ⟨w.heap.size + 1, 0, none⟩)]) ∧ w' = (w.alloc (.cells #[v1] 22)).alloc (.cells #[v2] 23) := by
  subst e1; subst e2
  refine callsIn_of_wp Tryd.func25 rfl h5 ?_ hro
  simp only [Tryd.ntmps25, List.size_toArray, List.length_cons, List.length_nil, Nat.reduceAdd, Nat.reduceSub, Array.replicate_succ, Array.replicate_zero, List.push_toArray, List.append_toArray, List.nil_append, List.cons_append]
  gi_wp2
  go_ret
  exact ⟨rfl, rfl⟩

set_option maxRecDepth 100000 in
set_option maxHeartbeats 2000000 in
/-- pairs of a list of ints and a list of rows: the closure that is ranged over. -/
theorem pairsMZ_in (F : Fence) (n : Nat) (h7 : F.fn 45) (hro : F.round = none) (hn : 1 ≤ n) (l B1 B2 : Nat) (Z : Nat → Prop) (v1 v2 : Value) (vs : List Value) (xs : List Int) (ys : List (List Int)) (hl : xs.length = ys.length) (J Jx : List (Fin xs.length) → World → Prop)
    (hY : ∀ pre (x : Fin xs.length) W, J pre W → pre.length < xs.length → YieldAt F (n - 1) Tryd.prog l #[.int .i64 (at_ xs x.val), vAt vs x.val] W fun e W' =>
      (e = .returned (.bool true) ∧ J (pre ++ [x]) W' ∧ KpZ Z W W') ∨ (e = .returned (.bool false) ∧ Jx (pre ++ [x]) W'))
    (W : World) (hZ1 : Z B1) (hZ2 : Z B2) (hc1 : W.cell? ⟨B1, 0, none⟩ = some v1) (hc2 : W.cell? ⟨B2, 0, none⟩ = some v2) (i1 : IsLZ Z W v1 xs) (i2 : IsRZ Z W v2 vs ys) (h0 : J [] W) :
    CallsIn F n Tryd.prog 45 #[.func (.yield l) #[] #[], .pointer (some ⟨B1, 0, none⟩), .pointer (some ⟨B2, 0, none⟩)] W fun e W' => (∃ v, e = .returned v) ∧
      ((∃ zs : List (Fin xs.length), zs.map Fin.val = List.range xs.length ∧ J zs W') ∨ (∃ pre, Jx pre W')) := by
  obtain ⟨a1, c1, rfl, l1, m1, _, k1⟩ := i1
  obtain ⟨hv0, hv1, a2, c2, rfl, l2, m2, k2⟩ := i2
  unfold maxLen at m1 m2
  have HL := hide hl; have HV0 := hide hv0; have HV1 := hide hv1
  have K1 := hide k1; have K2 := hide k2
  clear hl k1 k2 hv0 hv1
  have HY := hide hY; clear hY
  refine callsIn_of_wp Tryd.func45 rfl h7 ?_ hro
  simp only [Tryd.ntmps45, List.size_toArray, List.length_cons, List.length_nil, Nat.reduceAdd, Nat.reduceSub, Array.replicate_succ, Array.replicate_zero, List.push_toArray, List.append_toArray, List.nil_append, List.cons_append]
  gi_wp2
  gi_loopw [8] (fun i wr => ∃ (k : Nat) (pre : List (Fin xs.length)), k ≤ xs.length ∧ i = .int .i64 k ∧ pre.map Fin.val = List.range k ∧ J pre wr ∧ KpZ Z W wr)
    (fun i _ => xs.length - (intOf i).toNat)
  case atStart => exact ⟨0, [], Nat.zero_le _, rfl, rfl, h0, KpZ.refl _ _⟩
  case round =>
    obtain ⟨k, pre, hk, rfl, hpre, hJs, hnx⟩ := hrel
    have hpl : pre.length = k := by have := congrArg List.length hpre; simpa using this
    have HPRE := hide hpre; have HPL := hide hpl
    clear hpre hpl
    by_cases hlt : k < xs.length
    · obtain ⟨fn, tmps, assign, body, hy, hR⟩ := HY.out pre ⟨k, hlt⟩ wr hJs (by have := HPL.out; omega)
      simp only at hy
      have hlt2 : k < ys.length := by have := HL.out; omega
      rw [vAt_lt (by rw [HV0.out]; exact hlt2)] at hy
      obtain ⟨b1, o1, rfl, hb1, q1⟩ := K1.out (by intro h; rw [h] at hlt; simp at hlt)
      obtain ⟨b2, o2, rfl, hb2, q2⟩ := K2.out (by intro h; rw [h] at hlt2; simp at hlt2)
      have Q1 := hide q1; have Q2 := hide q2; clear q1 q2 K1 K2
      have d1 : wr.cell? ⟨b1, o1 + k, none⟩ = some (.int .i64 (at_ xs k)) := (World.cell?_of_block (w := W) (hnx _ hb1)).trans (Q1.out k hlt)
      have d2 : wr.cell? ⟨b2, o2 + k, none⟩ = some (vs[k]?.getD undef) := (World.cell?_of_block (w := W) (hnx _ hb2)).trans (Q2.out k hlt2)
      have hx2 := HV1.out k hlt2
      generalize ys[k]?.getD [] = r2 at hx2
      obtain ⟨a6, c6, e6, _⟩ := hx2
      rw [e6] at hy d2
      clear e6
      have e2 : wr.cell? ⟨B2, 0, none⟩ = some (.slice (some ⟨b2, o2, none⟩) ys.length c2) := (World.cell?_of_block (w := W) (hnx _ hZ2)).trans hc2
      have hl3 : (k : Int) < xs.length := by omega
      have hl4 : (k : Int) < ys.length := by omega
      gi_wp2
      refine hR.mono ?_
      rintro e W3 (⟨rfl, hJ3, hk3⟩ | ⟨rfl, hJx3⟩)
      · gi_wp2
        go_roundw
        case rel => exact ⟨k + 1, pre ++ [⟨k, hlt⟩], by omega, by simp, by rw [List.map_append, HPRE.out, List.range_succ]; rfl, hJ3, hnx.trans hk3⟩
        case measure => simp [intOf]; omega
      · gi_wp2
        refine bodyPost_ret (results_none rfl _ _ _) rfl ?_
        exact ⟨⟨_, rfl⟩, .inr ⟨_, hJx3⟩⟩
    · obtain rfl : k = xs.length := by omega
      gi_wp2
      go_end0
      exact ⟨⟨_, rfl⟩, .inl ⟨_, HPRE.out, hJs⟩⟩

theorem pairsMZ_stops (F : Fence) (n : Nat) (h7 : F.fn 45) (hro : F.round = none) (hn : 1 ≤ n) (B1 B2 : Nat) (Z : Nat → Prop) (v1 v2 : Value) (vs : List Value) (xs : List Int) (ys : List (List Int)) (hl : xs.length = ys.length) (w : World)
    (hB1 : B1 < w.heap.size) (hB2 : B2 < w.heap.size) (hn₀ : ∀ k, Z k → k < w.heap.size) (hZ1 : Z B1) (hZ2 : Z B2) (hc1 : w.cell? ⟨B1, 0, none⟩ = some v1) (hc2 : w.cell? ⟨B2, 0, none⟩ = some v2) (i1 : IsLZ Z w v1 xs) (i2 : IsRZ Z w v2 vs ys) :
    SeqStopsK F n Tryd.prog 45 #[.pointer (some ⟨B1, 0, none⟩), .pointer (some ⟨B2, 0, none⟩)] (fun x : Fin xs.length => #[.int .i64 (at_ xs x.val), vAt vs x.val]) (KpZ Z) (fun zs => zs.map Fin.val = List.range xs.length) (fun _ => True) xs.length w :=
  fun l J Jx W hW _ _ hY h0 => (pairsMZ_in F n h7 hro hn l B1 B2 Z v1 v2 vs xs ys hl J Jx hY W hZ1 hZ2 ((hW.cell (p := ⟨B1, 0, none⟩) hB1).trans hc1) ((hW.cell (p := ⟨B2, 0, none⟩) hB2).trans hc2) (i1.below hW hn₀) (i2.below hW hn₀) h0).mono
    fun e W' ⟨he, h⟩ => ⟨he, h.imp id fun ⟨pre, hp⟩ => ⟨pre, trivial, hp⟩⟩
end Go.Proofs.YtfbgnnelnpcbiaaDoor

namespace Go.Proofs.YtfbgnnelnpcbiaaDoor
open Go.RowKit

theorem Own.none' {B : Nat} (w : World) (hB : B ≤ w.heap.size) : Own B (w.alloc (.cells #[] 3)) (.slice (some ⟨w.heap.size, 0, none⟩) 0 0) [] := World.ownsRow_lit w #[] 0 hB (by decide) rfl

/-- 'append(s, x...)': a slice of the call's own, and another one behind it. -/
theorem cat_w {ops : Array Oper} {rest : List Oper} {o : Oper} {a : Act} {Q : Exit → Act → World → Prop} (hgd : o.guard = none) (s x : Operand)
    (ho : o.op = .call { callee := .builtin .append, args := #[s, x], argTypes := #[22, 22] })
    (B : Nat) (W : World) (v : Value) (xs ys : List Int) (b off m c : Nat) (hown : Own B W v xs) (hs : a.eval s = v) (hx : a.eval x = .slice (some ⟨b, off, none⟩) m c) (hm : ys.length = m)
    (hc : ∀ i, i < m → W.cell? ⟨b, off + i, none⟩ = some (.int .i64 (at_ ys i))) (hl : xs.length + m ≤ 1000000) (hB : B ≤ W.heap.size)
    (h : ∀ v' w', Own B w' v' (xs ++ ys) → W.grownBy w' v.ownBlock → (v'.ownBlock = v.ownBlock ∨ v'.ownBlock = some W.heap.size) → wpList Tryd.prog ops Q rest (a.put o.dst v') w') :
    wpList Tryd.prog ops Q (o :: rest) a W := by
  obtain ⟨i0, hi, hz0, hz1, hz2⟩ := info_parts infoI'
  subst hm
  refine wpList_append_own_at _ hgd s x 22 ho B 3 i0 _ 1 8 Tryd.underlying22 hi hz0 hz1 hz2 rfl (by decide) v xs.length (xs.map (Value.int .i64)) hs hown ⟨b, off, none⟩ ys.length c (ys.map (Value.int .i64)) hx (by simp) ?_ ?_ (by simp only [maxLen]; omega) (by omega) hB ?_
  · intro j u hj
    rw [List.getElem?_map] at hj
    by_cases hjl : j < ys.length
    · rw [List.getElem?_eq_getElem hjl] at hj
      simp only [Option.map_some, Option.some.injEq] at hj
      subst hj
      have := hc j hjl
      rw [at_get hjl] at this
      by_cases h0 : j = 0
      · subst h0; simpa [Addr.add] using this
      · simpa [Addr.add, h0] using this
    · rw [List.getElem?_eq_none (by omega)] at hj; simp at hj
  · intro u hu
    obtain ⟨z, _, rfl⟩ := List.mem_map.1 hu
    rfl
  · intro v' w' h1 h2 h3 h4
    refine h v' w' ?_ h2 h4
    unfold Own
    simpa using h1

theorem grown_below {B : Nat} {W w' : World} {v : Value} {xs : List Int} (hown : Own B W v xs) (hB : B ≤ W.heap.size) (hg : W.grownBy w' v.ownBlock) : Below B W w' :=
  (Below.refl B W).grown hg hB (fun k hk => (hown.lt k hk).1)

theorem grown_kept {B' : Nat} {W w' : World} {u v : Value} {us : List Int} (hu : Own B' W u us) (ha : Apart u v) (hg : W.grownBy w' v.ownBlock) : Own B' w' u us := by
  refine World.ownsRow.kept hu hg ?_
  cases h : u.ownBlock with
  | none => exact .inl rfl
  | some k => right; intro e; exact ha k h e.symm
end Go.Proofs.YtfbgnnelnpcbiaaDoor

namespace Go.Proofs.YtfbgnnelnpcbiaaDoor
open Go.RowKit

set_option maxRecDepth 100000 in
set_option maxHeartbeats 2000000 in
/-- Room for n numbers, from nothing. -/
theorem grow_w (n : Nat) (w : World) (_h0 : 1 ≤ n) (_h1 : n ≤ 1000) :
    Calls Tryd.prog 46 #[.slice none 0 0, .int .i64 n] w fun e w' => ∃ g cap, e = .returned (.slice (some ⟨g, 0, none⟩) 0 cap) ∧ Own w.heap.size w' (.slice (some ⟨g, 0, none⟩) 0 cap) [] ∧ Below w.heap.size w w' := by
  have hge := grownCap_ge w n 0 3
  have hle := grownCap_le_maxLen w n 0 3 (by unfold maxLen; omega)
  have hc : grownCap w n 0 3 = (Question.appendCap n 0 3).cut (w.tape w.drawn (Question.appendCap n 0 3)) := rfl
  rw [hc] at hge hle
  clear hc
  have HGE := hide hge; have HLE := hide hle
  clear hge hle
  have hb8 : Tryd.t3.bytes = 8 := rfl
  have hns : Builtin.nextslicecap n 0 = n := by unfold Builtin.nextslicecap; split <;> omega
  have hb9 : ¬ (281474976710656 < (n : Int) * 8) := by omega
  have hb10 : ¬ (281474976710656 < n * 8) := by omega
  have hn0 : ¬ n = 0 := by omega
  have hp : (0 : Int) < n := by omega
  go_enter Tryd.func46, Tryd.ntmps46
  go_wp2
  go_ret
  refine ⟨_, _, rfl, ?_, by first | exact (Below.drew (Below.refl _ _)).alloc (Nat.le_refl _) _ | exact Below.drew ((Below.refl _ _).alloc (Nat.le_refl _) _)⟩
  exact World.ownsRow_made (base := w.heap.size) (e := 3) (size := 1) w _ _ (Nat.le_refl _) HLE.out (by rw [Array.size_append, size_zeroCells, size_zeroCells]; have := HGE.out; simp; omega)

set_option maxRecDepth 100000 in
set_option maxHeartbeats 4000000 in
/-- Two slices, one behind the other. -/
theorem concat_w (lb b1 o1 n1 c1 b2 o2 n2 c2 : Nat) (xs ys : List Int) (w : World) (h0 : w.cell? ⟨lb, 0, none⟩ = some (.slice (some ⟨b1, o1, none⟩) n1 c1)) (h1 : w.cell? ⟨lb, 1, none⟩ = some (.slice (some ⟨b2, o2, none⟩) n2 c2))
    (i1 : IsL w (.slice (some ⟨b1, o1, none⟩) n1 c1) xs) (i2 : IsL w (.slice (some ⟨b2, o2, none⟩) n2 c2) ys) (hx : 1 ≤ xs.length) (hx2 : xs.length ≤ 100) (hy : 1 ≤ ys.length) (hy2 : ys.length ≤ 100) :
    Calls Tryd.prog 26 #[.slice (some ⟨lb, 0, none⟩) 2 2] w fun e w' => ∃ v, e = .returned v ∧ Own w.heap.size w' v (xs ++ ys) ∧ Below w.heap.size w w' := by
  have hn1 : n1 = xs.length := by obtain ⟨_, _, hv, _⟩ := i1; exact (Value.slice.inj hv).2.1
  have hn2 : n2 = ys.length := by obtain ⟨_, _, hv, _⟩ := i2; exact (Value.slice.inj hv).2.1
  have hlb := World.block_lt_of_cell? w _ h0
  have ce : ∀ (b o n c : Nat) (zs : List Int), IsL w (.slice (some ⟨b, o, none⟩) n c) zs → 1 ≤ zs.length → b < w.heap.size ∧ ∀ i, i < zs.length → w.cell? ⟨b, o + i, none⟩ = some (.int .i64 (at_ zs i)) := by
    intro b o n c zs h hz
    obtain ⟨_, _, hv, _, _, _, h4⟩ := h
    obtain ⟨rfl, _, _⟩ := Value.slice.inj hv
    obtain ⟨_, _, e, hlt, hc⟩ := h4 (by intro h; rw [h] at hz; simp at hz)
    cases e
    exact ⟨hlt, hc⟩
  obtain ⟨l1, d1⟩ := ce _ _ _ _ _ i1 hx
  obtain ⟨l2, d2⟩ := ce _ _ _ _ _ i2 hy
  obtain ⟨m1, hm1⟩ : ∃ m, xs.length = m := ⟨_, rfl⟩
  obtain ⟨m2, hm2⟩ : ∃ m, ys.length = m := ⟨_, rfl⟩
  rw [hm1] at hx hx2 d1 hn1
  rw [hm2] at hy hy2 d2 hn2
  subst hn1; subst hn2
  have G := fun X : World => grow_w (n1 + n2) X (by omega) (by omega)
  have HG := hide G; have HD1 := hide d1; have HD2 := hide d2; have HM1 := hide hm1; have HM2 := hide hm2; have HC0 := hide h0; have HC1 := hide h1
  clear G d1 d2 hm1 hm2 i1 i2 ce
  go_enter Tryd.func26, Tryd.ntmps26
  go_wp2
  go_loop [3, 11] (fun sz i => ∃ k n : Nat, i = .int .i64 k ∧ sz = .int .i64 n ∧ k ≤ 2 ∧ Hid (n = if k = 0 then 0 else if k = 1 then n1 else n1 + n2)) (fun _ i => 2 - (intOf i).toNat)
  case atStart => exact ⟨0, 0, rfl, rfl, by omega, rfl⟩
  case round =>
    obtain ⟨k, n, rfl, rfl, hk, hn⟩ := hrel
    by_cases hk0 : k = 0
    · subst hk0
      obtain rfl : n = 0 := by simpa using hn.out
      simp only [Int.natCast_zero]
      go_wp2
      go_round
      case rel => exact ⟨1, n1, rfl, by go_num, by omega, hide (by simp)⟩
      case measure => simp [intOf]
    by_cases hk1 : k = 1
    · subst hk1
      obtain rfl : n = n1 := by simpa using hn.out
      simp only [Int.natCast_one]
      go_wp2
      go_round
      case rel => exact ⟨2, n + n2, rfl, by go_num, by omega, hide (by simp)⟩
      case measure => simp [intOf]
    obtain rfl : k = 2 := by omega
    obtain rfl : n = n1 + n2 := by simpa using hn.out
    simp only [Int.cast_ofNat_Int]
    go_wp2_with fail
    refine (HG.out _).mono ?_
    rintro e w1 ⟨g, gc, rfl, ho, hb⟩
    have HO := hide ho; have HB := hide hb
    clear ho hb
    go_wp2_with fail
    go_loopw [6, 27] (fun v i wr => ∃ (k : Nat) (V : Value) (zs : List Int), V = v ∧ i = .int .i64 k ∧ k ≤ 2 ∧ Hid (zs = if k = 0 then [] else if k = 1 then xs else xs ++ ys) ∧ Hid (Own w.heap.size wr V zs) ∧ Hid (Below w.heap.size w wr)) (fun _ i _ => 2 - (intOf i).toNat)
    case atStart => exact ⟨0, _, [], rfl, rfl, by omega, hide (by simp), HO, HB⟩
    case round =>
      obtain ⟨k, V, zs, rfl, rfl, hk, hzs, hown, hbel⟩ := hrel
      have hsz := hbel.out.size
      have e0 : wr.cell? ⟨lb, 0, none⟩ = some (.slice (some ⟨b1, o1, none⟩) n1 c1) := (hbel.out.cell (p := ⟨lb, 0, none⟩) hlb).trans HC0.out
      have e1 : wr.cell? ⟨lb, 1, none⟩ = some (.slice (some ⟨b2, o2, none⟩) n2 c2) := (hbel.out.cell (p := ⟨lb, 1, none⟩) hlb).trans HC1.out
      by_cases hk0 : k = 0
      · subst hk0
        obtain rfl : zs = [] := by simpa using hzs.out
        have hcs : ∀ i, i < n1 → wr.cell? ⟨b1, o1 + i, none⟩ = some (.int .i64 (at_ xs i)) := fun i hi => (hbel.out.cell (p := ⟨b1, o1 + i, none⟩) l1).trans (HD1.out i hi)
        have HCS := hide hcs; clear hcs
        simp only [Int.natCast_zero]
        go_wp2_with (at_builtin; refine cat_w rfl (.tmp 31) (.tmp 32) rfl w.heap.size wr V [] xs b1 o1 n1 c1 hown.out rfl rfl HM1.out HCS.out (by simp; omega) hsz ?_; intro v' w2 hown2 hg2 _)
        go_roundw
        case rel => exact ⟨1, _, _, rfl, rfl, by omega, hide (by simp), hide hown2, hide (hbel.out.trans (grown_below hown.out hsz hg2))⟩
        case measure => simp [intOf]
      by_cases hk1 : k = 1
      · subst hk1
        obtain rfl : zs = xs := by simpa using hzs.out
        have hcs : ∀ i, i < n2 → wr.cell? ⟨b2, o2 + i, none⟩ = some (.int .i64 (at_ ys i)) := fun i hi => (hbel.out.cell (p := ⟨b2, o2 + i, none⟩) l2).trans (HD2.out i hi)
        have HCS := hide hcs; clear hcs
        simp only [Int.natCast_one]
        go_wp2_with (at_builtin; refine cat_w rfl (.tmp 31) (.tmp 32) rfl w.heap.size wr V zs ys b2 o2 n2 c2 hown.out rfl rfl HM2.out HCS.out (by rw [HM1.out]; omega) hsz ?_; intro v' w2 hown2 hg2 _)
        go_roundw
        case rel => exact ⟨2, _, _, rfl, rfl, by omega, hide (by simp), hide hown2, hide (hbel.out.trans (grown_below hown.out hsz hg2))⟩
        case measure => simp [intOf]
      obtain rfl : k = 2 := by omega
      obtain rfl : zs = xs ++ ys := by simpa using hzs.out
      simp only [Int.cast_ofNat_Int]
      go_wp2
      go_ret
      exact ⟨_, rfl, hown.out, hbel.out⟩
end Go.Proofs.YtfbgnnelnpcbiaaDoor
