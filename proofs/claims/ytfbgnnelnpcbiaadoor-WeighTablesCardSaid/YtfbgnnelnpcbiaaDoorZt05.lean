import Derived.Test.YtfbgnnelnpcbiaaDoorZt04
import Derived.RangeFuncBox
import Derived.RangeFuncLeaves
import Derived.RangeFuncNested
import Derived.Shelf.Abstract
import Derived.OwnWalkIn
import Derived.TacticsInMore
import Derived.LoopNIn
import Derived.LoopIn
import Derived.Maps.AppendAt
set_option linter.unusedVariables false
set_option linter.unusedSimpArgs false
namespace Go.Proofs.YtfbgnnelnpcbiaaDoor
open Go.RowKit Go.Shelf

attribute [local go_sem] Oper.semAt_some

/-- What a round must keep: all that lay below n₀, and the two boxes that the iterator reads. -/
def KpP (n₀ B1 B2 : Nat) (W W' : World) : Prop := Below n₀ W W' ∧ W'.heap[B1]? = W.heap[B1]? ∧ W'.heap[B2]? = W.heap[B2]?
theorem KpP.refl (n₀ B1 B2 : Nat) (W : World) : KpP n₀ B1 B2 W W := ⟨Below.refl _ _, rfl, rfl⟩
theorem KpP.trans {n₀ B1 B2 : Nat} {A B C : World} (h : KpP n₀ B1 B2 A B) (k : KpP n₀ B1 B2 B C) : KpP n₀ B1 B2 A C := ⟨h.1.trans k.1, k.2.1.trans h.2.1, k.2.2.trans h.2.2⟩
theorem KpP.put {n₀ B1 B2 : Nat} {w : World} (h0 : n₀ ≤ w.heap.size) (h1 : B1 < w.heap.size) (h2 : B2 < w.heap.size) (W : World) (l : Nat) (o o' : Obj) (hl : w.heap.size ≤ l) (h : W.heap[l]? = some o) (hc : o.isCells = false) (hw : o.isWalk = false) : KpP n₀ B1 B2 W (W.putObj l o') :=
  ⟨belowK_b h0 W l o o' hl h hc hw, World.putObj_heap_other (by omega), World.putObj_heap_other (by omega)⟩

set_option maxRecDepth 100000 in
set_option maxHeartbeats 2000000 in
/-- pairs of two lists of ints: the closure that is ranged over. -/
theorem pairsI_in (F : Fence) (n : Nat) (h7 : F.fn 41) (hro : F.round = none) (hn : 1 ≤ n) (l B1 B2 n₀ : Nat) (v1 v2 : Value) (xs ys : List Int) (hl : xs.length = ys.length) (J Jx : List Nat → World → Prop)
    (hY : ∀ pre x W, J pre W → pre.length < xs.length → YieldAt F (n - 1) Tryd.prog l #[.int .i64 (at_ xs x), .int .i64 (at_ ys x)] W fun e W' =>
      (e = .returned (.bool true) ∧ J (pre ++ [x]) W' ∧ KpP n₀ B1 B2 W W') ∨ (e = .returned (.bool false) ∧ Jx (pre ++ [x]) W'))
    (W : World) (hc1 : W.cell? ⟨B1, 0, none⟩ = some v1) (hc2 : W.cell? ⟨B2, 0, none⟩ = some v2) (i1 : IsLB n₀ W v1 xs) (i2 : IsLB n₀ W v2 ys) (h0 : J [] W) :
    CallsIn F n Tryd.prog 41 #[.func (.yield l) #[] #[], .pointer (some ⟨B1, 0, none⟩), .pointer (some ⟨B2, 0, none⟩)] W fun e W' => (∃ v, e = .returned v) ∧
      ((∃ zs, zs = List.range xs.length ∧ J zs W') ∨ (∃ pre, (∃ k, k ≤ xs.length ∧ pre = List.range k) ∧ Jx pre W')) := by
  obtain ⟨a1, c1, rfl, l1, m1, _, k1⟩ := i1
  obtain ⟨a2, c2, rfl, l2, m2, _, k2⟩ := i2
  unfold maxLen at m1 m2
  have HL := hide hl; clear hl
  have K1 := hide k1; have K2 := hide k2; clear k1 k2
  have HY := hide hY; clear hY
  refine callsIn_of_wp Tryd.func41 rfl h7 ?_ hro
  simp only [Tryd.ntmps41, List.size_toArray, List.length_cons, List.length_nil, Nat.reduceAdd, Nat.reduceSub, Array.replicate_succ, Array.replicate_zero, List.push_toArray, List.append_toArray, List.nil_append, List.cons_append]
  gi_wp2
  gi_loopw [8] (fun i wr => ∃ k : Nat, k ≤ xs.length ∧ i = .int .i64 k ∧ J (List.range k) wr ∧ KpP n₀ B1 B2 W wr)
    (fun i _ => xs.length - (intOf i).toNat)
  case atStart => exact ⟨0, Nat.zero_le _, rfl, h0, KpP.refl _ _ _ _⟩
  case round =>
    obtain ⟨k, hk, rfl, hJs, hnx⟩ := hrel
    by_cases hlt : k < xs.length
    · obtain ⟨fn, tmps, assign, body, hy, hR⟩ := HY.out _ k wr hJs (by simpa using hlt)
      obtain ⟨b1, o1, rfl, hb1, q1⟩ := K1.out (by intro h; rw [h] at hlt; simp at hlt)
      obtain ⟨b2, o2, rfl, hb2, q2⟩ := K2.out (by intro h; have := HL.out; rw [h] at this; simp only [List.length_nil] at this; omega)
      have Q1 := hide q1; have Q2 := hide q2; clear q1 q2 K1 K2
      have d1 : wr.cell? ⟨b1, o1 + k, none⟩ = some (.int .i64 (at_ xs k)) := (hnx.1.cell (p := ⟨b1, o1 + k, none⟩) hb1).trans (Q1.out k hlt)
      have d2 : wr.cell? ⟨b2, o2 + k, none⟩ = some (.int .i64 (at_ ys k)) := (hnx.1.cell (p := ⟨b2, o2 + k, none⟩) hb2).trans (Q2.out k (by have := HL.out; omega))
      have e2 : wr.cell? ⟨B2, 0, none⟩ = some (.slice (some ⟨b2, o2, none⟩) ys.length c2) := (World.cell?_of_block (w := W) hnx.2.2).trans hc2
      have hl3 : (k : Int) < xs.length := by omega
      have hl4 : (k : Int) < ys.length := by have := HL.out; omega
      gi_wp2
      refine hR.mono ?_
      rintro e W3 (⟨rfl, hJ3, hk3⟩ | ⟨rfl, hJx3⟩)
      · gi_wp2
        go_roundw
        case rel => exact ⟨k + 1, by omega, by simp, by rw [List.range_succ]; exact hJ3, hnx.trans hk3⟩
        case measure => simp [intOf]; omega
      · gi_wp2
        refine bodyPost_ret (results_none rfl _ _ _) rfl ?_
        exact ⟨⟨_, rfl⟩, .inr ⟨_, ⟨k + 1, by omega, List.range_succ.symm⟩, hJx3⟩⟩
    · obtain rfl : k = xs.length := by omega
      gi_wp2
      go_end0
      exact ⟨⟨_, rfl⟩, .inl ⟨_, rfl, hJs⟩⟩

theorem pairsI_stops (F : Fence) (n : Nat) (h7 : F.fn 41) (hro : F.round = none) (hn : 1 ≤ n) (B1 B2 n₀ : Nat) (v1 v2 : Value) (xs ys : List Int) (hl : xs.length = ys.length) (w : World)
    (hB1 : B1 < w.heap.size) (hB2 : B2 < w.heap.size) (hn₀ : n₀ ≤ w.heap.size) (hc1 : w.cell? ⟨B1, 0, none⟩ = some v1) (hc2 : w.cell? ⟨B2, 0, none⟩ = some v2) (i1 : IsLB n₀ w v1 xs) (i2 : IsLB n₀ w v2 ys) :
    SeqStopsK F n Tryd.prog 41 #[.pointer (some ⟨B1, 0, none⟩), .pointer (some ⟨B2, 0, none⟩)] (fun x : Nat => #[.int .i64 (at_ xs x), .int .i64 (at_ ys x)]) (KpP n₀ B1 B2) (fun zs => zs = List.range xs.length) (fun _ => True) xs.length w :=
  fun l J Jx W hW _ _ hY h0 => (pairsI_in F n h7 hro hn l B1 B2 n₀ v1 v2 xs ys hl J Jx hY W ((hW.cell (p := ⟨B1, 0, none⟩) hB1).trans hc1) ((hW.cell (p := ⟨B2, 0, none⟩) hB2).trans hc2) (i1.below (hW.mono hn₀)) (i2.below (hW.mono hn₀)) h0).mono
    fun e W' ⟨he, h⟩ => ⟨he, h.imp id fun ⟨pre, _, hp⟩ => ⟨pre, trivial, hp⟩⟩

set_option maxHeartbeats 1000000 in
theorem pairsI_call (F : Fence) (n : Nat) (h5 : F.fn 21) (hro : F.round = none) (v1 v2 : Value) (a1 a2 : Option Addr) (n1 n2 c1 c2 : Nat) (e1 : v1 = .slice a1 n1 c1) (e2 : v2 = .slice a2 n2 c2) (w : World) :
    CallsIn F n Tryd.prog 21 #[v1, v2] w fun e w' => e = .returned (.func (.func 41) #[] #[.pointer (some ⟨w.heap.size, 0, none⟩), .pointer (some ⟨w.heap.size + 1, 0, none⟩)]) ∧ w' = (w.alloc (.cells #[v1] 22)).alloc (.cells #[v2] 22) := by
  subst e1; subst e2
  refine callsIn_of_wp Tryd.func21 rfl h5 ?_ hro
  simp only [Tryd.ntmps21, List.size_toArray, List.length_cons, List.length_nil, Nat.reduceAdd, Nat.reduceSub, Array.replicate_succ, Array.replicate_zero, List.push_toArray, List.append_toArray, List.nil_append, List.cons_append]
  gi_wp2
  go_ret
  exact ⟨rfl, rfl⟩

theorem make_ints0 (n : Nat) (h : n ≤ 1000000) (w : World) : (Instr.makeSlice 22 (.int .i64 0) (.int .i64 (n : Int))).run Tryd.prog w = .ok (.slice (some ⟨w.heap.size, 0, none⟩) 0 n) (w.alloc (.cells (ints (List.replicate n 0)) 3)) := by
  obtain ⟨i0, hi, hz0, hz1, hz2⟩ := info_parts infoI
  have := run_make (P := Tryd.prog) w 22 3 i0 _ Tryd.underlying22 hi hz0 .i64 .i64 0 n (Int.le_refl _) (by omega) (by rw [hz2]; omega) (by omega)
  rw [this]
  have e : madeCells (Value.cells (.int .i64 0)) ((n : Int).toNat * i0.size) = ints (List.replicate n 0) := by
    rw [hz1, Int.toNat_natCast, Nat.mul_one]
    apply Array.toList_inj.1
    show (madeCells #[Value.int .i64 0] n).toList = _
    rw [toList_madeCells_one]; simp [ints]
  rw [e]; simp

theorem pos_bd {xs : List Int} (hp : Pos xs) (i : Nat) : 0 ≤ at_ xs i ∧ at_ xs i ≤ 100000 := by
  by_cases h : i < xs.length
  · exact hp.bd i h
  · unfold at_; rw [List.getElem?_eq_none (by omega)]; simp

def lev (xs ys : List Int) (about : Int) (i : Nat) : Int := at_ ys i * (at_ xs i - about)

set_option maxRecDepth 100000 in
set_option maxHeartbeats 2000000 in
theorem levers_in (F : Fence) (n : Nat) (h3 : F.fn 53) (h4 : F.fn 21) (h5 : F.fn 41) (hro : F.round = none) (hn : 3 ≤ n)
    (a1 a2 : Option Addr) (n1 n2 c1 c2 : Nat) (xs ys : List Int) (about : Int) (w : World) (i1 : IsL w (.slice a1 n1 c1) xs) (i2 : IsL w (.slice a2 n2 c2) ys) (hp : Pos xs) (hl : xs.length = ys.length) (hy : Lim 20000 ys) (_ha0 : 0 ≤ about) (_ha1 : about ≤ 100000) :
    CallsIn F n Tryd.prog 53 #[.slice a1 n1 c1, .slice a2 n2 c2, .int .i64 about] w fun e W' => ∃ v, e = .returned v ∧ W'.ownsRow (w.heap.size + 1) 3 1 v xs.length ((List.range xs.length).map fun i => .int .i64 (lev xs ys about i)) ∧ Below w.heap.size w W' := by
  have h1 : 1 ≤ n := by omega
  have hn1 : n1 = xs.length := by obtain ⟨_, _, hv, _⟩ := i1; cases hv; rfl
  subst hn1
  have h9 := hp.hi
  have hmk := make_ints0 xs.length (by omega)
  obtain ⟨i0, hi, hz0, hz1, hz2⟩ := info_parts infoI
  have HL := hide hl; clear hl
  refine callsIn_of_wp_marks Tryd.func53 rfl h3 ?_ hro
  simp only [Tryd.ntmps53, List.size_toArray, List.length_cons, List.length_nil, Nat.reduceAdd, Nat.reduceSub, Array.replicate_succ, Array.replicate_zero, List.push_toArray, List.append_toArray, List.nil_append, List.cons_append]
  gi_wp2_with (gi_at_call 21; refine (pairsI_call F (n - 1) h4 hro _ _ _ _ _ _ _ _ rfl rfl _).mono ?_; rintro e w' ⟨rfl, rfl⟩)
  have hrow0 : (w.alloc (.cells #[.int .i64 about] 3)).heap.size = w.heap.size + 1 := by simp
  obtain ⟨W0, hW0⟩ : ∃ W0, (((((w.alloc (.cells #[.int .i64 about] 3)).alloc (.cells (ints (List.replicate xs.length 0)) 3)).alloc (.cells #[.slice (some ⟨w.heap.size + 1, 0, none⟩) 0 xs.length] 22)).alloc (.cells #[.slice a1 xs.length c1] 22)).alloc (.cells #[.slice a2 n2 c2] 22)) = W0 := ⟨_, rfl⟩
  have hsz : W0.heap.size = w.heap.size + 5 := by rw [← hW0]; simp
  have hB0 : Below w.heap.size w W0 := by rw [← hW0]; exact (((((Below.refl _ w).alloc (Nat.le_refl _) _).alloc (by simp) _).alloc (by simp; omega) _).alloc (by simp; omega) _).alloc (by simp; omega) _
  have bA : Boxed W0 w.heap.size 3 (.int .i64 about) := by rw [← hW0]; exact ((((Boxed.new w _ _).alloc _).alloc _).alloc _).alloc _
  have bV : Boxed W0 (w.heap.size + 1 + 1) 22 (.slice (some ⟨w.heap.size + 1, 0, none⟩) 0 xs.length) := by
    rw [← hW0]
    have := Boxed.new ((w.alloc (.cells #[.int .i64 about] 3)).alloc (.cells (ints (List.replicate xs.length 0)) 3)) 22 (.slice (some ⟨w.heap.size + 1, 0, none⟩) 0 xs.length)
    rw [World.size_alloc, World.size_alloc] at this
    exact (this.alloc _).alloc _
  have bP : Boxed W0 (w.heap.size + 1 + 1 + 1) 22 (.slice a1 xs.length c1) := by
    rw [← hW0]
    have := Boxed.new (((w.alloc (.cells #[.int .i64 about] 3)).alloc (.cells (ints (List.replicate xs.length 0)) 3)).alloc (.cells #[.slice (some ⟨w.heap.size + 1, 0, none⟩) 0 xs.length] 22)) 22 (.slice a1 xs.length c1)
    rw [World.size_alloc, World.size_alloc, World.size_alloc] at this
    exact this.alloc _
  have bQ : Boxed W0 (w.heap.size + 1 + 1 + 1 + 1) 22 (.slice a2 n2 c2) := by
    rw [← hW0]
    have := Boxed.new ((((w.alloc (.cells #[.int .i64 about] 3)).alloc (.cells (ints (List.replicate xs.length 0)) 3)).alloc (.cells #[.slice (some ⟨w.heap.size + 1, 0, none⟩) 0 xs.length] 22)).alloc (.cells #[.slice a1 xs.length c1] 22)) 22 (.slice a2 n2 c2)
    rw [World.size_alloc, World.size_alloc, World.size_alloc, World.size_alloc] at this
    exact this
  have hown0 : W0.ownsRow (w.heap.size + 1) 3 1 (.slice (some ⟨w.heap.size + 1, 0, none⟩) 0 xs.length) 0 [] := by
    rw [← hW0]
    have := World.ownsRow_made (base := w.heap.size + 1) (e := 3) (size := 1) (w.alloc (.cells #[.int .i64 about] 3)) (ints (List.replicate xs.length 0)) xs.length (by simp) (by unfold maxLen; omega) (by simp [ints])
    rw [World.size_alloc] at this
    exact ((this.alloc _).alloc _).alloc _
  rw [hW0]
  have hi1 : IsLB w.heap.size W0 (.slice a1 xs.length c1) xs := IsLB.below (B := w.heap.size) i1 hB0
  have hi2 : IsLB w.heap.size W0 (.slice a2 n2 c2) ys := IsLB.below (B := w.heap.size) i2 hB0
  have hlo := hp.lo
  refine wpIn_rangeFunc_ownF hro h1 (gf := 41) (lb := #[.pointer (some ⟨w.heap.size + 1 + 1 + 1, 0, none⟩), .pointer (some ⟨w.heap.size + 1 + 1 + 1 + 1, 0, none⟩)]) rfl h5 (enters_of Tryd.func41 (by kernel_rfl) rfl)
    (pairsI_stops F (n - 1) h5 hro (by omega) (w.heap.size + 1 + 1 + 1) (w.heap.size + 1 + 1 + 1 + 1) w.heap.size _ _ xs ys HL.out W0 (by omega) (by omega) (by omega) bP.cell bQ.cell hi1 hi2) KpP.trans (KpP.put (by omega) (by omega) (by omega)) (Below.refl _ _) (fun _ => rfl)
    (fun (pre : List Nat) W => ((((∃ v, Boxed W (w.heap.size + 1 + 1) 22 v ∧ W.ownsRow (w.heap.size + 1) 3 1 v pre.length (pre.map fun i => Value.int .i64 (lev xs ys about i)) ∧ True) ∧ Boxed W w.heap.size 3 (.int .i64 about)) ∧ Boxed W (w.heap.size + 1 + 1 + 1) 22 (.slice a1 xs.length c1)) ∧ Boxed W (w.heap.size + 1 + 1 + 1 + 1) 22 (.slice a2 n2 c2)) ∧ Below w.heap.size w W)
    (fun _ _ _ => False)
    (OwnFrom.and (OwnFrom.and (OwnFrom.and (OwnFrom.and (Own.from (holdsRow_own (w.heap.size + 1) (w.heap.size + 1 + 1) 22 3 1 (fun pre : List Nat => pre.length) (fun pre : List Nat => pre.map fun i => Value.int .i64 (lev xs ys about i)) (fun _ _ => True)) _) (Own.from (boxed_own _ _ _) _)) (Own.from (boxed_own _ _ _) _)) (Own.from (boxed_own _ _ _) _)) (ownFrom_below (Nat.le_refl _) (by omega)))
    (fun _ _ _ _ _ hs _ _ => hs)
    ⟨⟨⟨⟨⟨_, bV, hown0, trivial⟩, bA⟩, bP⟩, bQ⟩, hB0⟩
    (fun (x : Nat) => { tmps := #[.slice a1 xs.length c1, .slice a2 n2 c2, .int .i64 about, undef, undef, .pointer (some ⟨w.heap.size, 0, none⟩), .slice none 0 0, .pointer (some ⟨w.heap.size + 1 + 1, 0, none⟩), .int .i64 (at_ xs x), .int .i64 (at_ ys x), .slice a1 xs.length c1, .int .i64 xs.length, .slice (some ⟨w.heap.size + 1, 0, none⟩) 0 xs.length, .slice a1 xs.length c1, .slice a2 n2 c2, .func (.func 41) #[] #[.pointer (some ⟨w.heap.size + 1 + 1 + 1, 0, none⟩), .pointer (some ⟨w.heap.size + 1 + 1 + 1 + 1, 0, none⟩)], .int .i64 (at_ xs x), .int .i64 (at_ ys x), undef, undef, undef, undef, undef, undef, undef, undef, undef], defers := [] }) ?assign ?body ?done ?stop
  case assign =>
    intro l x W K hK
    gi_wp2
    exact hK
  case body =>
    rintro l pre x W ⟨⟨⟨⟨⟨v, hv, hrow, _⟩, hA⟩, hP⟩, hQ⟩, hB⟩ hlt
    have hc := hv.cell
    have hca := hA.cell
    have bx := pos_bd hp x
    have by' := hy x
    obtain ⟨X, hX⟩ : ∃ X, at_ xs x = X := ⟨_, rfl⟩
    obtain ⟨Y, hY⟩ : ∃ X, at_ ys x = X := ⟨_, rfl⟩
    have hlev : lev xs ys about x = Y * (X - about) := by unfold lev; rw [hX, hY]
    have HLEV := hide hlev; clear hlev
    rw [hX] at bx ⊢
    rw [hY] at by' ⊢
    clear hX hY
    have hmul := mul_lim (a := Y) (b := X - about) (K := 20000) (V := 100000) by' (by omega)
    obtain ⟨bxa, bxb⟩ := bx
    obtain ⟨hm1, hm2⟩ := hmul
    gi_wp2_with (gi_at_builtin; refine wpListIn_append_own _ rfl _ _ 22 rfl (w.heap.size + 1) 3 i0 (.int .i64 0) 1 8 Tryd.underlying22 hi hz0 hz1 hz2 rfl (by decide) _ _ _ rfl (hrow.alloc _) ⟨W.heap.size, 0, none⟩ 1 1 [.int .i64 (Y * (X - about))] rfl rfl (cell_one_new _ _ _) (by simp [Value.oneCell']) (by unfold maxLen; omega) (by omega) (by have := hA.lt; simp; omega) ?_; intro v' w1 hown' hgrow _; obtain ⟨g', cap', rfl⟩ := ownsRow_succ hown'; obtain ⟨hv1, hv2, hr2, hk2, hb2⟩ := hv.appended (by decide) hrow (by have := hA.lt; omega) (by omega) hown' hgrow; have hc1 := hv1.cell; have hf1 := hv1.frozen)
    have kept : ∀ {B : Nat} {u : Value}, B ≠ w.heap.size + 1 + 1 → some B ≠ v.ownBlock → ∀ {t : TypeId}, Boxed W B t u → Boxed (w1.setCell ⟨w.heap.size + 1 + 1, 0, none⟩ (.slice (some ⟨g', 0, none⟩) (pre.length + 1) cap')) B t u :=
      fun hne hno _ h => (((h.alloc _).kept hgrow hno)).other hne _
    have kP := kept (by omega) (hP.not_row (by decide) hrow) hP
    have kQ := kept (by omega) (hQ.not_row (by decide) hrow) hQ
    have kA : Boxed (w1.setCell ⟨w.heap.size + 1 + 1, 0, none⟩ (.slice (some ⟨g', 0, none⟩) (pre.length + 1) cap')) w.heap.size 3 (.int .i64 about) := (hb2.block _ (by omega)).trans hA
    have hb3 := hb2.mono (show w.heap.size ≤ w.heap.size + 1 by omega)
    refine ⟨hk2, ⟨hb3, kP.trans hP.symm, kQ.trans hQ.symm⟩, ⟨⟨⟨⟨_, hv2, ?_, trivial⟩, kA⟩, kP⟩, kQ⟩, hB.trans hb3⟩
    rw [List.length_append, List.map_append, List.map_cons, List.map_nil, HLEV.out]; exact hr2
  case done =>
    rintro D zs W hD rfl ⟨⟨⟨⟨⟨v, hv, hrow, _⟩, hA⟩, hP⟩, hQ⟩, hB⟩ hK
    have hc := hv.cell
    rw [List.length_range] at hrow
    gi_wp2
    refine ⟨by simp, .inl ⟨_, _, rfl, run_takeDeferred hK, ?_⟩⟩
    exact ⟨_, results_tmp rfl _ _ _, v, rfl, ownsRow_putObj hrow _ hK rfl, hB.trans (belowK_b (w := w) (Nat.le_refl _) W D _ _ (by omega) hK rfl rfl)⟩
  case stop =>
    rintro D c pre W _ _ h _
    exact h.elim
end Go.Proofs.YtfbgnnelnpcbiaaDoor

namespace Go.Proofs.YtfbgnnelnpcbiaaDoor
open Go.RowKit Go.Shelf

theorem IsL.of_own {base e : Nat} {w : World} {v : Value} {n : Nat} {vs : List Int} (h : w.ownsRow base e 1 v n (vs.map (Value.int .i64))) (hfb : ∀ x ∈ vs, FB x) : IsL w v vs := by
  have h0 := h
  obtain ⟨h1, h2⟩ := h
  have hn : n = vs.length := by simpa using h1.symm
  subst hn
  rcases h2 with ⟨rfl, hn⟩ | ⟨g, cap, cur, rfl, hb, hh, hc, hm, hsz, ht⟩
  · exact ⟨none, 0, by rw [hn], by omega, Nat.zero_le _, hfb, fun hne => absurd (List.length_eq_zero_iff.1 hn) hne⟩
  · refine ⟨some ⟨g, 0, none⟩, cap, rfl, hc, hm, hfb, fun _ => ⟨g, 0, rfl, (h0.lt g rfl).2, fun i hi => ?_⟩⟩
    rw [Nat.zero_add, h0.cellAt _ (by omega)]; simp [hi]

def levL (xs ys : List Int) (about : Int) : List Int := (List.range xs.length).map (lev xs ys about)
theorem levL_len (xs ys : List Int) (about : Int) : (levL xs ys about).length = xs.length := by simp [levL]
theorem levL_at (xs ys : List Int) (about : Int) (i : Nat) (h : i < xs.length) : at_ (levL xs ys about) i = lev xs ys about i := by simp [levL, at_, h]
theorem lev_lim {xs ys : List Int} {about : Int} (hp : Pos xs) (hy : Lim 20000 ys) (h0 : 0 ≤ about) (h1 : about ≤ 100000) (i : Nat) : -2000000000 ≤ lev xs ys about i ∧ lev xs ys about i ≤ 2000000000 := by
  have bx := pos_bd hp i
  have := mul_lim (a := at_ ys i) (b := at_ xs i - about) (K := 20000) (V := 100000) (hy i) (by omega)
  unfold lev; omega
theorem levL_lim {xs ys : List Int} {about : Int} (hp : Pos xs) (hy : Lim 20000 ys) (h0 : 0 ≤ about) (h1 : about ≤ 100000) : Lim 2000000000 (levL xs ys about) := by
  intro i
  by_cases h : i < xs.length
  · rw [levL_at _ _ _ _ h]; exact lev_lim hp hy h0 h1 i
  · unfold at_; rw [List.getElem?_eq_none (by rw [levL_len]; omega)]; simp

theorem levers_w (a1 a2 : Option Addr) (n1 n2 c1 c2 : Nat) (xs ys : List Int) (about : Int) (w : World) (i1 : IsL w (.slice a1 n1 c1) xs) (i2 : IsL w (.slice a2 n2 c2) ys) (hp : Pos xs) (hl : xs.length = ys.length) (hy : Lim 20000 ys) (ha0 : 0 ≤ about) (ha1 : about ≤ 100000) :
    Calls Tryd.prog 53 #[.slice a1 n1 c1, .slice a2 n2 c2, .int .i64 about] w fun e w' => ∃ v, e = .returned v ∧ IsL w' v (levL xs ys about) ∧ Below w.heap.size w w' := by
  refine (callsIn_wide.1 (levers_in Fence.wide 3 trivial trivial trivial rfl (Nat.le_refl _) a1 a2 n1 n2 c1 c2 xs ys about w i1 i2 hp hl hy ha0 ha1)).mono ?_
  rintro e w' ⟨v, he, hr, hb⟩
  refine ⟨v, he, IsL.of_own (n := xs.length) (by rw [levL, List.map_map]; exact hr) (lim_FB (levL_lim hp hy ha0 ha1) (by omega)), hb⟩

/-- The error of positions and ordinates. -/
def ordE (xs ys : List Int) : Int := if rise 9 100000 xs = true then (if ys.length = xs.length ∧ ys.all (inB (-20000) 20000) = true then 0 else 1) else 12

theorem ord_zero {xs ys : List Int} (h : ordE xs ys = 0) : Pos xs ∧ xs.length = ys.length ∧ Lim 20000 ys := by
  unfold ordE at h
  split at h
  · rename_i h1
    split at h
    · rename_i h2
      refine ⟨Pos.of h1, h2.1.symm, fun i => ?_⟩
      by_cases hi : i < ys.length
      · have := (List.all_eq_true.1 h2.2) _ (List.getElem_mem hi)
        rw [at_get hi]; simpa [inB] using this
      · unfold at_; rw [List.getElem?_eq_none (by omega)]; simp
    · simp at h
  · simp at h
theorem ordE_or (xs ys : List Int) : ordE xs ys = 0 ∨ ordE xs ys = 1 ∨ ordE xs ys = 12 := by unfold ordE; (repeat' split) <;> simp

theorem within_q (a : Option Addr) (n cap : Nat) (xs : List Int) (lo hi : Int) (w : World) (h : IsL w (.slice a n cap) xs) :
    Calls Tryd.prog 30 #[.slice a n cap, .int .i64 lo, .int .i64 hi] w fun e w' => e = .returned (.bool (xs.all (inB lo hi))) ∧ w' = w := (within_w a n cap xs lo hi w h).mono fun _ _ ⟨x, y⟩ => ⟨x, y.symm⟩

set_option maxHeartbeats 1000000 in
theorem ords_w (a1 a2 : Option Addr) (n1 n2 c1 c2 : Nat) (xs ys : List Int) (w : World) (i1 : IsL w (.slice a1 n1 c1) xs) (i2 : IsL w (.slice a2 n2 c2) ys) :
    Calls Tryd.prog 51 #[.slice a1 n1 c1, .slice a2 n2 c2] w fun e w' => e = .returned (.int .i64 (ordE xs ys)) ∧ Drew w w' := by
  have hn1 : n1 = xs.length := by obtain ⟨_, _, hv, _⟩ := i1; cases hv; rfl
  have hn2 : n2 = ys.length := by obtain ⟨_, _, hv, _⟩ := i2; cases hv; rfl
  subst hn1; subst hn2
  have hpl := places_w a1 xs.length c1 xs w i1
  have hwi := fun k : Nat => within_q a2 ys.length c2 ys (-20000) 20000 (w.drewN k) (i2.drewN k)
  have HW := hide hwi; clear hwi
  cases hr : rise 9 100000 xs with
  | false =>
    have e1 : pl xs = 12 := by unfold pl; rw [hr]; rfl
    have e2 : Hid (ordE xs ys = 12) := by show _ = _; unfold ordE; rw [hr]; rfl
    rw [e1] at hpl
    have HP := hide hpl; clear hpl hr e1
    go_enter Tryd.func51, Tryd.ntmps51
    go_wp2_with (go_at_call 35; refine HP.out.mono ?_; rintro e w' ⟨rfl, k, rfl⟩)
    go_ret
    exact ⟨ret_int e2.out.symm, _, rfl⟩
  | true =>
    have e1 : pl xs = 0 := by unfold pl; rw [hr]; rfl
    rw [e1] at hpl
    have HP := hide hpl; clear hpl e1
    by_cases hl : ys.length = xs.length
    · have d1 : ((ys.length : Int) != (xs.length : Int)) = false := by simp; omega
      cases ha : ys.all (inB (-20000) 20000) with
      | true =>
        have e2 : Hid (ordE xs ys = 0) := by show _ = _; unfold ordE; rw [hr, if_pos rfl, if_pos ⟨hl, ha⟩]
        clear hr hl
        go_enter Tryd.func51, Tryd.ntmps51
        go_wp2_with (first | (go_at_call 35; refine HP.out.mono ?_; rintro e w' ⟨rfl, k, rfl⟩) | (go_at_call 30; refine (HW.out _).mono ?_; rintro e w' ⟨rfl, rfl⟩))
        go_ret
        exact ⟨ret_int e2.out.symm, _, rfl⟩
      | false =>
        have e2 : Hid (ordE xs ys = 1) := by show _ = _; unfold ordE; rw [hr, if_pos rfl, if_neg (by intro h; rw [ha] at h; simp at h)]
        clear hr hl
        go_enter Tryd.func51, Tryd.ntmps51
        go_wp2_with (first | (go_at_call 35; refine HP.out.mono ?_; rintro e w' ⟨rfl, k, rfl⟩) | (go_at_call 30; refine (HW.out _).mono ?_; rintro e w' ⟨rfl, rfl⟩))
        go_ret
        exact ⟨ret_int e2.out.symm, _, rfl⟩
    · have d1 : ((ys.length : Int) != (xs.length : Int)) = true := by simp; omega
      have e2 : Hid (ordE xs ys = 1) := by show _ = _; unfold ordE; rw [hr, if_pos rfl, if_neg (by intro h; exact hl h.1)]
      clear hr hl
      go_enter Tryd.func51, Tryd.ntmps51
      go_wp2_with (go_at_call 35; refine HP.out.mono ?_; rintro e w' ⟨rfl, k, rfl⟩)
      go_ret
      exact ⟨ret_int e2.out.symm, _, rfl⟩
end Go.Proofs.YtfbgnnelnpcbiaaDoor

namespace Go.Proofs.YtfbgnnelnpcbiaaDoor
open Go.RowKit Go.Shelf

def areaV (xs ys : List Int) : Int := if ordE xs ys = 0 then dot xs ys else 0
def momE (xs ys : List Int) (about : Int) : Int := if ordE xs ys = 0 then (if 0 ≤ about ∧ about ≤ 100000 then 0 else 1) else ordE xs ys
def momV (xs ys : List Int) (about : Int) : Int := if momE xs ys about = 0 then dot xs (levL xs ys about) else 0
def cenF (xs ys : List Int) : Int × Int × Int := if ordE xs ys = 0 then (if dot xs ys = 0 then (0, 0, 3) else mk (dot xs (levL xs ys 0)) (dot xs ys)) else (0, 0, ordE xs ys)

theorem ret_ii {a b c d : Int} (h1 : a = b) (h2 : c = d) : Ending.returned (.tuple #[.int .i64 a, .int .i64 c]) = .returned (.tuple #[.int .i64 b, .int .i64 d]) := by rw [h1, h2]

theorem lim_more {M N : Int} {l : List Int} (h : Lim M l) (hN : M ≤ N) : Lim N l := fun i => by have := h i; omega

set_option maxHeartbeats 1000000 in
theorem Centre_w {p q r : Int} (xs ys : List Int) (hc : Hid (cenF xs ys = (p, q, r))) (a1 a2 : Option Addr) (n1 n2 c1 c2 : Nat) (w : World) (i1 : IsL w (.slice a1 n1 c1) xs) (i2 : IsL w (.slice a2 n2 c2) ys) :
    Calls Tryd.prog 34 #[.slice a1 n1 c1, .slice a2 n2 c2] w fun e w' => e = .returned (.tuple #[.agg #[.int .i64 p, .int .i64 q], .int .i64 r]) ∧ Below w.heap.size w w' := by
  have ho := fun o => ords_w a1 a2 n1 n2 c1 c2 xs ys (w.alloc o) (i1.below ((Below.refl _ _).alloc (Nat.le_refl _) _)) (i2.below ((Below.refl _ _).alloc (Nat.le_refl _) _))
  have HO := hide ho; clear ho
  by_cases h0 : ordE xs ys = 0
  · obtain ⟨hp, hl, hy⟩ := ord_zero h0
    have hin := fun (w' : World) (a3 : Option Addr) (n3 c3 : Nat) (vs : List Int) (hb : Below w.heap.size w w') (i3 : IsL w' (.slice a3 n3 c3) vs) (hl3 : vs.length = xs.length) (hv3 : Lim 2000000000 vs) => integrate_w a1 a3 n1 n3 c1 c3 xs vs w' (i1.below hb) i3 hp hl3 hv3
    have HIN := hide hin; clear hin
    have hd := dot_lim hp (lim_more hy (show (20000 : Int) ≤ 2000000000 by omega))
    have hd2 := dot_lim hp (levL_lim hp hy (about := 0) (by omega) (by omega))
    obtain ⟨hd1a, hd1b⟩ := hd
    obtain ⟨hd2a, hd2b⟩ := hd2
    by_cases hz : dot xs ys = 0
    · have hk : (p, q, r) = ((0 : Int), (0 : Int), (3 : Int)) := by have := hc.out; unfold cenF at this; rw [if_pos h0, if_pos hz] at this; exact this.symm
      simp only [Prod.mk.injEq] at hk
      obtain ⟨rfl, rfl, rfl⟩ := hk
      have HL := hide hl; clear hl
      go_enter Tryd.func34, Tryd.ntmps34
      go_wp2_with (first | (go_at_call 51; refine (HO.out _).mono ?_; rintro e w' ⟨rfl, k, rfl⟩) | (go_at_call 52; refine (HIN.out _ _ _ _ _ (by repeat (first | exact Below.refl _ _ | assumption | refine Below.alloc ?_ (by first | omega | (simp; omega) | simp) _ | refine Below.setCell ?_ (by first | omega | (simp; omega) | simp) _ | refine below_drewN ?_ _ | refine Below.drew ?_ | refine back ?_ (by assumption))) (IsL.drewN (i2.below (by repeat (first | exact Below.refl _ _ | assumption | refine Below.alloc ?_ (by first | omega | (simp; omega) | simp) _ | refine Below.setCell ?_ (by first | omega | (simp; omega) | simp) _ | refine below_drewN ?_ _ | refine Below.drew ?_ | refine back ?_ (by assumption)))) _) HL.out.symm (lim_more hy (by omega))).mono ?_; rintro e w1 ⟨rfl, hb1⟩; obtain ⟨hc1, hf1⟩ := bcell hb1; have hz1 := hb1.size; (try simp at hz1); have hs1_0 : w.heap.size < w1.heap.size := (by omega)))
      refine bodyPost_ret (v := .tuple #[.agg #[.int .i64 0, .int .i64 0], .int .i64 3]) (by simp [results, Tryd.results34, go_sem, hc1, hs1_0]) rfl ⟨rfl, (by repeat (first | exact Below.refl _ _ | assumption | refine Below.alloc ?_ (by first | omega | (simp; omega) | simp) _ | refine Below.setCell ?_ (by first | omega | (simp; omega) | simp) _ | refine below_drewN ?_ _ | refine Below.drew ?_ | refine back ?_ (by assumption)))⟩
    · have hk : Hid (mk (dot xs (levL xs ys 0)) (dot xs ys) = (p, q, r)) := by have := hc.out; unfold cenF at this; rw [if_pos h0, if_neg hz] at this; exact this
      have d0 : (dot xs ys == 0) = false := by simpa using hz
      have HL := hide hl; clear hl hz
      go_enter Tryd.func34, Tryd.ntmps34
      go_wp2_with (go_at_call 51; refine (HO.out _).mono ?_; rintro e w' ⟨rfl, k, rfl⟩)
      refine (HIN.out _ _ _ _ _ (by repeat (first | exact Below.refl _ _ | assumption | refine Below.alloc ?_ (by first | omega | (simp; omega) | simp) _ | refine Below.setCell ?_ (by first | omega | (simp; omega) | simp) _ | refine below_drewN ?_ _ | refine Below.drew ?_ | refine back ?_ (by assumption))) (IsL.drewN (i2.below (by repeat (first | exact Below.refl _ _ | assumption | refine Below.alloc ?_ (by first | omega | (simp; omega) | simp) _ | refine Below.setCell ?_ (by first | omega | (simp; omega) | simp) _ | refine below_drewN ?_ _ | refine Below.drew ?_ | refine back ?_ (by assumption)))) _) HL.out.symm (lim_more hy (by omega))).mono ?_
      rintro e w1 ⟨rfl, hb1⟩; obtain ⟨hc1, hf1⟩ := bcell hb1; have hz1 := hb1.size; (try simp at hz1); have hs1_0 : w.heap.size < w1.heap.size := (by omega)
      go_wp2_with fail
      have hb3 : Below w.heap.size w w1 := (by repeat (first | exact Below.refl _ _ | assumption | refine Below.alloc ?_ (by first | omega | (simp; omega) | simp) _ | refine Below.setCell ?_ (by first | omega | (simp; omega) | simp) _ | refine below_drewN ?_ _ | refine Below.drew ?_ | refine back ?_ (by assumption)))
      refine (levers_w a1 a2 n1 n2 c1 c2 xs ys 0 w1 (i1.below hb3) (i2.below hb3) hp HL.out hy (by omega) (by omega)).mono ?_
      rintro e w2 ⟨v, rfl, hv, hb2⟩
      obtain ⟨a3, c3, rfl, _⟩ := id hv
      have hb4 : Below w.heap.size w w2 := back hb3 hb2
      obtain ⟨hc2, hf2⟩ := bcell hb2
      have hz2 := hb2.size
      have hs2_0 : w.heap.size < w2.heap.size := by omega
      go_wp2_with fail
      refine (HIN.out _ _ _ _ _ hb4 hv (levL_len _ _ _) (levL_lim hp hy (by omega) (by omega))).mono ?_
      rintro e w3 ⟨rfl, hb5⟩
      have hb6 : Below w.heap.size w w3 := back hb4 hb5
      obtain ⟨hc3, hf3⟩ := bcell hb5
      have hz3 := hb5.size
      have hs3_0 : w.heap.size < w3.heap.size := by omega
      go_wp2_with (go_at_call 31; refine (make_c hk _ ⟨by omega, by omega⟩ ⟨by omega, by omega⟩).mono ?_; rintro e w4 ⟨rfl, hb7⟩; obtain ⟨hc4, hf4⟩ := bcell hb7; have hz4 := hb7.size; have hs4_0 : w.heap.size < w4.heap.size := (by omega))
      have hb8 : Below w.heap.size w w4 := back hb6 hb7
      refine bodyPost_ret (v := .tuple #[.agg #[.int .i64 p, .int .i64 q], .int .i64 r]) (by simp [results, Tryd.results34, go_sem, hc4, hc3, hc2, hc1, hs4_0, hs3_0, hs2_0, hs1_0]) rfl ⟨rfl, (by repeat (first | exact Below.refl _ _ | assumption | refine Below.alloc ?_ (by first | omega | (simp; omega) | simp) _ | refine Below.setCell ?_ (by first | omega | (simp; omega) | simp) _ | refine below_drewN ?_ _ | refine Below.drew ?_ | refine back ?_ (by assumption)))⟩
  · have hk : (p, q, r) = ((0 : Int), (0 : Int), ordE xs ys) := by have := hc.out; unfold cenF at this; rw [if_neg h0] at this; exact this.symm
    simp only [Prod.mk.injEq] at hk
    obtain ⟨rfl, rfl, rfl⟩ := hk
    have d0 : (ordE xs ys != 0) = true := by simpa using h0
    clear h0 hc
    go_enter Tryd.func34, Tryd.ntmps34
    go_wp2_with (go_at_call 51; refine (HO.out _).mono ?_; rintro e w' ⟨rfl, k, rfl⟩)
    refine bodyPost_ret (v := .tuple #[.agg #[.int .i64 0, .int .i64 0], .int .i64 (ordE xs ys)]) (by simp [results, Tryd.results34, go_sem]) rfl ⟨rfl, (by repeat (first | exact Below.refl _ _ | assumption | refine Below.alloc ?_ (by first | omega | (simp; omega) | simp) _ | refine Below.setCell ?_ (by first | omega | (simp; omega) | simp) _ | refine below_drewN ?_ _ | refine Below.drew ?_ | refine back ?_ (by assumption)))⟩
end Go.Proofs.YtfbgnnelnpcbiaaDoor

namespace Go.Proofs.YtfbgnnelnpcbiaaDoor
open Go.RowKit Go.Shelf

def planB (S W : List Int) : Bool := rise 9 100000 S && rise 9 100000 W && decide ((W.length : Int) ≤ 7) && W.all (inB 0 15000)
def planE (S W : List Int) : Int := if planB S W = true then 0 else 12

set_option maxHeartbeats 1000000 in
theorem plan_w (a1 a2 : Option Addr) (n1 n2 c1 c2 : Nat) (S W : List Int) (w : World) (i1 : IsL w (.slice a1 n1 c1) S) (i2 : IsL w (.slice a2 n2 c2) W) :
    Calls Tryd.prog 16 #[.slice a1 n1 c1, .slice a2 n2 c2] w fun e w' => e = .returned (.int .i64 (planE S W)) ∧ Drew w w' := by
  have hn2 : n2 = W.length := by obtain ⟨_, _, hv, _⟩ := i2; cases hv; rfl
  subst hn2
  have h1 := places_w a1 n1 c1 S w i1
  have h2 := fun k : Nat => places_w a2 W.length c2 W (w.drewN k) (i2.drewN k)
  have h3 := fun k : Nat => within_q a2 W.length c2 W 0 15000 (w.drewN k) (i2.drewN k)
  have H3 := hide h3; clear h3
  cases r1 : rise 9 100000 S with
  | false =>
    have e1 : pl S = 12 := by unfold pl; rw [r1]; rfl
    have E : Hid (planE S W = 12) := by show _ = _; unfold planE planB; rw [r1]; rfl
    rw [e1] at h1
    have H1 := hide h1; clear h1 h2 r1 e1
    go_enter Tryd.func16, Tryd.ntmps16
    go_wp2_with fail
    refine H1.out.mono ?_
    rintro e w' ⟨rfl, k, rfl⟩
    go_wp2_with fail
    go_ret
    exact ⟨ret_int E.out.symm, _, rfl⟩
  | true =>
    have e1 : pl S = 0 := by unfold pl; rw [r1]; rfl
    rw [e1] at h1
    have H1 := hide h1; clear h1 e1
    cases r2 : rise 9 100000 W with
    | false =>
      have e2 : pl W = 12 := by unfold pl; rw [r2]; rfl
      have E : Hid (planE S W = 12) := by show _ = _; unfold planE planB; rw [r1, r2]; rfl
      rw [e2] at h2
      have H2 := hide h2; clear h2 r1 r2 e2
      go_enter Tryd.func16, Tryd.ntmps16
      go_wp2_with fail
      refine H1.out.mono ?_
      rintro e w' ⟨rfl, k, rfl⟩
      go_wp2_with fail
      refine (H2.out k).mono ?_
      rintro e w' ⟨rfl, k2, rfl⟩
      go_wp2_with fail
      go_ret
      exact ⟨ret_int E.out.symm, (by first | exact ⟨_, rfl⟩ | exact ⟨_, World.drewN_drewN _ _ _⟩)⟩
    | true =>
      have e2 : pl W = 0 := by unfold pl; rw [r2]; rfl
      rw [e2] at h2
      have H2 := hide h2; clear h2 e2
      by_cases hl : (7 : Int) < (W.length : Int)
      · have E : Hid (planE S W = 12) := by show _ = _; unfold planE planB; rw [r1, r2, decide_eq_false (by omega)]; rfl
        clear r1 r2
        go_enter Tryd.func16, Tryd.ntmps16
        go_wp2_with fail
        refine H1.out.mono ?_
        rintro e w' ⟨rfl, k, rfl⟩
        go_wp2_with fail
        refine (H2.out k).mono ?_
        rintro e w' ⟨rfl, k2, rfl⟩
        go_wp2_with fail
        go_ret
        exact ⟨ret_int E.out.symm, (by first | exact ⟨_, rfl⟩ | exact ⟨_, World.drewN_drewN _ _ _⟩)⟩
      · cases r3 : W.all (inB 0 15000) with
        | false =>
          have E : Hid (planE S W = 12) := by show _ = _; unfold planE planB; rw [r1, r2, r3, decide_eq_true (by omega)]; rfl
          rw [r3] at H3
          clear r1 r2 r3
          go_enter Tryd.func16, Tryd.ntmps16
          go_wp2_with fail
          refine H1.out.mono ?_
          rintro e w' ⟨rfl, k, rfl⟩
          go_wp2_with fail
          refine (H2.out k).mono ?_
          rintro e w' ⟨rfl, k2, rfl⟩
          go_wp2_with (go_at_call 30; refine (H3.out _).mono ?_; rintro e w' ⟨rfl, rfl⟩)
          go_ret
          exact ⟨ret_int E.out.symm, (by first | exact ⟨_, rfl⟩ | exact ⟨_, World.drewN_drewN _ _ _⟩)⟩
        | true =>
          have E : Hid (planE S W = 0) := by show _ = _; unfold planE planB; rw [r1, r2, r3, decide_eq_true (by omega)]; rfl
          rw [r3] at H3
          clear r1 r2 r3
          go_enter Tryd.func16, Tryd.ntmps16
          go_wp2_with fail
          refine H1.out.mono ?_
          rintro e w' ⟨rfl, k, rfl⟩
          go_wp2_with fail
          refine (H2.out k).mono ?_
          rintro e w' ⟨rfl, k2, rfl⟩
          go_wp2_with (go_at_call 30; refine (H3.out _).mono ?_; rintro e w' ⟨rfl, rfl⟩)
          go_ret
          exact ⟨ret_int E.out.symm, (by first | exact ⟨_, rfl⟩ | exact ⟨_, World.drewN_drewN _ _ _⟩)⟩

/-- The slice value v reads as rows; row i is the slice value vs[i]. -/
def IsRB (B : Nat) (w : World) (v : Value) (vs : List Value) (rows : List (List Int)) : Prop :=
  vs.length = rows.length ∧ (∀ i, i < rows.length → IsLB B w (vs[i]?.getD undef) (rows[i]?.getD [])) ∧
  ∃ a cap, v = .slice a rows.length cap ∧ rows.length ≤ cap ∧ cap ≤ maxLen ∧
    (rows ≠ [] → ∃ b off, a = some ⟨b, off, none⟩ ∧ b < B ∧ ∀ i, i < rows.length → w.cell? ⟨b, off + i, none⟩ = some (vs[i]?.getD undef))

theorem IsRB.keep {B : Nat} {w w' : World} {v : Value} {vs : List Value} {rows : List (List Int)} (h : IsRB B w v vs rows) (hk : ∀ p : Addr, p.block < B → w'.cell? p = w.cell? p) : IsRB B w' v vs rows := by
  obtain ⟨h0, h1, a, cap, hv, h2, h3, h4⟩ := h
  refine ⟨h0, fun i hi => (h1 i hi).keep hk, a, cap, hv, h2, h3, fun hne => ?_⟩
  obtain ⟨b, off, ha, hlt, hc⟩ := h4 hne
  exact ⟨b, off, ha, hlt, fun i hi => by rw [hk ⟨b, off + i, none⟩ hlt]; exact hc i hi⟩
theorem IsRB.more {B B' : Nat} {w : World} {v : Value} {vs : List Value} {rows : List (List Int)} (h : IsRB B w v vs rows) (hB : B ≤ B') : IsRB B' w v vs rows := by
  obtain ⟨h0, h1, a, cap, hv, h2, h3, h4⟩ := h
  refine ⟨h0, fun i hi => (h1 i hi).more hB, a, cap, hv, h2, h3, fun hne => ?_⟩
  obtain ⟨b, off, ha, hlt, hc⟩ := h4 hne
  exact ⟨b, off, ha, by omega, hc⟩
theorem IsRB.below {B : Nat} {w w' : World} {v : Value} {vs : List Value} {rows : List (List Int)} (h : IsRB B w v vs rows) (hb : Below B w w') : IsRB B w' v vs rows := h.keep fun _ hp => hb.cell hp

def rowB (W r : List Int) : Bool := decide (r.length = W.length) && r.all (inB 0 20000)
def tabB (S W : List Int) (H : List (List Int)) : Bool := planB S W && decide (H.length = S.length) && H.all (rowB W)
def tabE (S W : List Int) (H : List (List Int)) : Int := if tabB S W H = true then 0 else 13
end Go.Proofs.YtfbgnnelnpcbiaaDoor
