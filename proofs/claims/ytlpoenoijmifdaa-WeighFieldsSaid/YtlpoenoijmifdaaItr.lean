import Derived.Test.YtlpoenoijmifdaaWgh
import Derived.RangeFuncBox
import Derived.RangeFuncLeaves
import Derived.RangeFuncNested
import Derived.Shelf.Abstract
import Derived.OwnWalkIn
import Derived.TacticsInMore
import Derived.LoopNIn
import Derived.LoopIn
import Derived.Maps.AppendAt
set_option linter.unusedVariables false
set_option linter.unusedSimpArgs false
namespace Go.Proofs.Ytlpoenoijmifdaa
open Go.RowKit Go.Shelf

attribute [local go_sem] Oper.semAt_some

/-- What a round must keep: all that lay below n₀, and the two boxes that the iterator reads. -/
def KpP (n₀ B1 B2 : Nat) (W W' : World) : Prop := Below n₀ W W' ∧ W'.heap[B1]? = W.heap[B1]? ∧ W'.heap[B2]? = W.heap[B2]?
theorem KpP.refl (n₀ B1 B2 : Nat) (W : World) : KpP n₀ B1 B2 W W := ⟨Below.refl _ _, rfl, rfl⟩
theorem KpP.trans {n₀ B1 B2 : Nat} {A B C : World} (h : KpP n₀ B1 B2 A B) (k : KpP n₀ B1 B2 B C) : KpP n₀ B1 B2 A C := ⟨h.1.trans k.1, k.2.1.trans h.2.1, k.2.2.trans h.2.2⟩
theorem KpP.put {n₀ B1 B2 : Nat} {w : World} (h0 : n₀ ≤ w.heap.size) (h1 : B1 < w.heap.size) (h2 : B2 < w.heap.size) (W : World) (l : Nat) (o o' : Obj) (hl : w.heap.size ≤ l) (h : W.heap[l]? = some o) (hc : o.isCells = false) (hw : o.isWalk = false) : KpP n₀ B1 B2 W (W.putObj l o') :=
  ⟨belowK_b h0 W l o o' hl h hc hw, World.putObj_heap_other (by omega), World.putObj_heap_other (by omega)⟩

set_option maxRecDepth 100000 in
set_option maxHeartbeats 2000000 in
/-- pairs of two lists of ints: the closure that is ranged over. -/
theorem pairsI_in (F : Fence) (n : Nat) (h7 : F.fn 94) (hro : F.round = none) (hn : 1 ≤ n) (l B1 B2 n₀ : Nat) (v1 v2 : Value) (xs ys : List Int) (hl : xs.length = ys.length) (J Jx : List Nat → World → Prop)
    (hY : ∀ pre x W, J pre W → pre.length < xs.length → YieldAt F (n - 1) Try.prog l #[.int .i64 (at_ xs x), .int .i64 (at_ ys x)] W fun e W' =>
      (e = .returned (.bool true) ∧ J (pre ++ [x]) W' ∧ KpP n₀ B1 B2 W W') ∨ (e = .returned (.bool false) ∧ Jx (pre ++ [x]) W'))
    (W : World) (hc1 : W.cell? ⟨B1, 0, none⟩ = some v1) (hc2 : W.cell? ⟨B2, 0, none⟩ = some v2) (i1 : IsLB n₀ W v1 xs) (i2 : IsLB n₀ W v2 ys) (h0 : J [] W) :
    CallsIn F n Try.prog 94 #[.func (.yield l) #[] #[], .pointer (some ⟨B1, 0, none⟩), .pointer (some ⟨B2, 0, none⟩)] W fun e W' => (∃ v, e = .returned v) ∧
      ((∃ zs, zs = List.range xs.length ∧ J zs W') ∨ (∃ pre, (∃ k, k ≤ xs.length ∧ pre = List.range k) ∧ Jx pre W')) := by
  obtain ⟨a1, c1, rfl, l1, m1, _, k1⟩ := i1
  obtain ⟨a2, c2, rfl, l2, m2, _, k2⟩ := i2
  unfold maxLen at m1 m2
  have HL := hide hl; clear hl
  have K1 := hide k1; have K2 := hide k2; clear k1 k2
  have HY := hide hY; clear hY
  refine callsIn_of_wp Try.func94 rfl h7 ?_ hro
  simp only [Try.ntmps94, List.size_toArray, List.length_cons, List.length_nil, Nat.reduceAdd, Nat.reduceSub, Array.replicate_succ, Array.replicate_zero, List.push_toArray, List.append_toArray, List.nil_append, List.cons_append]
  gi_wp2
  gi_loopw [8] (fun i wr => ∃ k : Nat, k ≤ xs.length ∧ i = .int .i64 k ∧ J (List.range k) wr ∧ KpP n₀ B1 B2 W wr)
    (fun i _ => xs.length - (intOf i).toNat)
  case atStart => exact ⟨0, Nat.zero_le _, rfl, h0, KpP.refl _ _ _ _⟩
  case round =>
    obtain ⟨k, hk, rfl, hJs, hnx⟩ := hrel
    by_cases hlt : k < xs.length
    · obtain ⟨fn, tmps, assign, body, hy, hR⟩ := HY.out _ k wr hJs (by simpa using hlt)
      obtain ⟨b1, o1, rfl, hb1, q1⟩ := K1.out (by intro h; rw [h] at hlt; simp at hlt)
      obtain ⟨b2, o2, rfl, hb2, q2⟩ := K2.out (by intro h; have := HL.out; rw [h] at this; simp only [List.length_nil] at this; omega)
      have Q1 := hide q1; have Q2 := hide q2; clear q1 q2 K1 K2
      have d1 : wr.cell? ⟨b1, o1 + k, none⟩ = some (.int .i64 (at_ xs k)) := (hnx.1.cell (p := ⟨b1, o1 + k, none⟩) hb1).trans (Q1.out k hlt)
      have d2 : wr.cell? ⟨b2, o2 + k, none⟩ = some (.int .i64 (at_ ys k)) := (hnx.1.cell (p := ⟨b2, o2 + k, none⟩) hb2).trans (Q2.out k (by have := HL.out; omega))
      have e2 : wr.cell? ⟨B2, 0, none⟩ = some (.slice (some ⟨b2, o2, none⟩) ys.length c2) := (World.cell?_of_block (w := W) hnx.2.2).trans hc2
      have hl3 : (k : Int) < xs.length := by omega
      have hl4 : (k : Int) < ys.length := by have := HL.out; omega
      gi_wp2
      refine hR.mono ?_
      rintro e W3 (⟨rfl, hJ3, hk3⟩ | ⟨rfl, hJx3⟩)
      · gi_wp2
        go_roundw
        case rel => exact ⟨k + 1, by omega, by simp, by rw [List.range_succ]; exact hJ3, hnx.trans hk3⟩
        case measure => simp [intOf]; omega
      · gi_wp2
        refine bodyPost_ret (results_none rfl _ _ _) rfl ?_
        exact ⟨⟨_, rfl⟩, .inr ⟨_, ⟨k + 1, by omega, List.range_succ.symm⟩, hJx3⟩⟩
    · obtain rfl : k = xs.length := by omega
      gi_wp2
      go_end0
      exact ⟨⟨_, rfl⟩, .inl ⟨_, rfl, hJs⟩⟩

theorem pairsI_stops (F : Fence) (n : Nat) (h7 : F.fn 94) (hro : F.round = none) (hn : 1 ≤ n) (B1 B2 n₀ : Nat) (v1 v2 : Value) (xs ys : List Int) (hl : xs.length = ys.length) (w : World)
    (hB1 : B1 < w.heap.size) (hB2 : B2 < w.heap.size) (hn₀ : n₀ ≤ w.heap.size) (hc1 : w.cell? ⟨B1, 0, none⟩ = some v1) (hc2 : w.cell? ⟨B2, 0, none⟩ = some v2) (i1 : IsLB n₀ w v1 xs) (i2 : IsLB n₀ w v2 ys) :
    SeqStopsK F n Try.prog 94 #[.pointer (some ⟨B1, 0, none⟩), .pointer (some ⟨B2, 0, none⟩)] (fun x : Nat => #[.int .i64 (at_ xs x), .int .i64 (at_ ys x)]) (KpP n₀ B1 B2) (fun zs => zs = List.range xs.length) (fun _ => True) xs.length w :=
  fun l J Jx W hW _ _ hY h0 => (pairsI_in F n h7 hro hn l B1 B2 n₀ v1 v2 xs ys hl J Jx hY W ((hW.cell (p := ⟨B1, 0, none⟩) hB1).trans hc1) ((hW.cell (p := ⟨B2, 0, none⟩) hB2).trans hc2) (i1.below (hW.mono hn₀)) (i2.below (hW.mono hn₀)) h0).mono
    fun e W' ⟨he, h⟩ => ⟨he, h.imp id fun ⟨pre, _, hp⟩ => ⟨pre, trivial, hp⟩⟩

set_option maxHeartbeats 1000000 in
theorem pairsI_call (F : Fence) (n : Nat) (h5 : F.fn 84) (hro : F.round = none) (v1 v2 : Value) (a1 a2 : Option Addr) (n1 n2 c1 c2 : Nat) (e1 : v1 = .slice a1 n1 c1) (e2 : v2 = .slice a2 n2 c2) (w : World) :
    CallsIn F n Try.prog 84 #[v1, v2] w fun e w' => e = .returned (.func (.func 94) #[] #[.pointer (some ⟨w.heap.size, 0, none⟩), .pointer (some ⟨w.heap.size + 1, 0, none⟩)]) ∧ w' = (w.alloc (.cells #[v1] 38)).alloc (.cells #[v2] 38) := by
  subst e1; subst e2
  refine callsIn_of_wp Try.func84 rfl h5 ?_ hro
  simp only [Try.ntmps84, List.size_toArray, List.length_cons, List.length_nil, Nat.reduceAdd, Nat.reduceSub, Array.replicate_succ, Array.replicate_zero, List.push_toArray, List.append_toArray, List.nil_append, List.cons_append]
  gi_wp2
  go_ret
  exact ⟨rfl, rfl⟩

theorem make_ints0 (n : Nat) (h : n ≤ 1000000) (w : World) : (Instr.makeSlice 38 (.int .i64 0) (.int .i64 (n : Int))).run Try.prog w = .ok (.slice (some ⟨w.heap.size, 0, none⟩) 0 n) (w.alloc (.cells (ints (List.replicate n 0)) 3)) := by
  obtain ⟨i0, hi, hz0, hz1, hz2⟩ := info_parts infoI
  have := run_make (P := Try.prog) w 38 3 i0 _ Try.underlying38 hi hz0 .i64 .i64 0 n (Int.le_refl _) (by omega) (by rw [hz2]; omega) (by omega)
  rw [this]
  have e : madeCells (Value.cells (.int .i64 0)) ((n : Int).toNat * i0.size) = ints (List.replicate n 0) := by
    rw [hz1, Int.toNat_natCast, Nat.mul_one]
    apply Array.toList_inj.1
    show (madeCells #[Value.int .i64 0] n).toList = _
    rw [toList_madeCells_one]; simp [ints]
  rw [e]; simp

theorem pos_bd {xs : List Int} (hp : Pos xs) (i : Nat) : 0 ≤ at_ xs i ∧ at_ xs i ≤ 100000 := by
  by_cases h : i < xs.length
  · exact hp.bd i h
  · unfold at_; rw [List.getElem?_eq_none (by omega)]; simp

def lev (xs ys : List Int) (about : Int) (i : Nat) : Int := at_ ys i * (at_ xs i - about)

set_option maxRecDepth 100000 in
set_option maxHeartbeats 2000000 in
theorem levers_in (F : Fence) (n : Nat) (h3 : F.fn 76) (h4 : F.fn 84) (h5 : F.fn 94) (hro : F.round = none) (hn : 3 ≤ n)
    (a1 a2 : Option Addr) (n1 n2 c1 c2 : Nat) (xs ys : List Int) (about : Int) (w : World) (i1 : IsL w (.slice a1 n1 c1) xs) (i2 : IsL w (.slice a2 n2 c2) ys) (hp : Pos xs) (hl : xs.length = ys.length) (hy : Lim 20000 ys) (_ha0 : 0 ≤ about) (_ha1 : about ≤ 100000) :
    CallsIn F n Try.prog 76 #[.slice a1 n1 c1, .slice a2 n2 c2, .int .i64 about] w fun e W' => ∃ v, e = .returned v ∧ W'.ownsRow (w.heap.size + 1) 3 1 v xs.length ((List.range xs.length).map fun i => .int .i64 (lev xs ys about i)) ∧ Below w.heap.size w W' := by
  have h1 : 1 ≤ n := by omega
  have hn1 : n1 = xs.length := by obtain ⟨_, _, hv, _⟩ := i1; cases hv; rfl
  subst hn1
  have h9 := hp.hi
  have hmk := make_ints0 xs.length (by omega)
  obtain ⟨i0, hi, hz0, hz1, hz2⟩ := info_parts infoI
  have HL := hide hl; clear hl
  refine callsIn_of_wp_marks Try.func76 rfl h3 ?_ hro
  simp only [Try.ntmps76, List.size_toArray, List.length_cons, List.length_nil, Nat.reduceAdd, Nat.reduceSub, Array.replicate_succ, Array.replicate_zero, List.push_toArray, List.append_toArray, List.nil_append, List.cons_append]
  gi_wp2_with (gi_at_call 84; refine (pairsI_call F (n - 1) h4 hro _ _ _ _ _ _ _ _ rfl rfl _).mono ?_; rintro e w' ⟨rfl, rfl⟩)
  have hrow0 : (w.alloc (.cells #[.int .i64 about] 3)).heap.size = w.heap.size + 1 := by simp
  obtain ⟨W0, hW0⟩ : ∃ W0, (((((w.alloc (.cells #[.int .i64 about] 3)).alloc (.cells (ints (List.replicate xs.length 0)) 3)).alloc (.cells #[.slice (some ⟨w.heap.size + 1, 0, none⟩) 0 xs.length] 38)).alloc (.cells #[.slice a1 xs.length c1] 38)).alloc (.cells #[.slice a2 n2 c2] 38)) = W0 := ⟨_, rfl⟩
  have hsz : W0.heap.size = w.heap.size + 5 := by rw [← hW0]; simp
  have hB0 : Below w.heap.size w W0 := by rw [← hW0]; exact (((((Below.refl _ w).alloc (Nat.le_refl _) _).alloc (by simp) _).alloc (by simp; omega) _).alloc (by simp; omega) _).alloc (by simp; omega) _
  have bA : Boxed W0 w.heap.size 3 (.int .i64 about) := by rw [← hW0]; exact ((((Boxed.new w _ _).alloc _).alloc _).alloc _).alloc _
  have bV : Boxed W0 (w.heap.size + 1 + 1) 38 (.slice (some ⟨w.heap.size + 1, 0, none⟩) 0 xs.length) := by
    rw [← hW0]
    have := Boxed.new ((w.alloc (.cells #[.int .i64 about] 3)).alloc (.cells (ints (List.replicate xs.length 0)) 3)) 38 (.slice (some ⟨w.heap.size + 1, 0, none⟩) 0 xs.length)
    rw [World.size_alloc, World.size_alloc] at this
    exact (this.alloc _).alloc _
  have bP : Boxed W0 (w.heap.size + 1 + 1 + 1) 38 (.slice a1 xs.length c1) := by
    rw [← hW0]
    have := Boxed.new (((w.alloc (.cells #[.int .i64 about] 3)).alloc (.cells (ints (List.replicate xs.length 0)) 3)).alloc (.cells #[.slice (some ⟨w.heap.size + 1, 0, none⟩) 0 xs.length] 38)) 38 (.slice a1 xs.length c1)
    rw [World.size_alloc, World.size_alloc, World.size_alloc] at this
    exact this.alloc _
  have bQ : Boxed W0 (w.heap.size + 1 + 1 + 1 + 1) 38 (.slice a2 n2 c2) := by
    rw [← hW0]
    have := Boxed.new ((((w.alloc (.cells #[.int .i64 about] 3)).alloc (.cells (ints (List.replicate xs.length 0)) 3)).alloc (.cells #[.slice (some ⟨w.heap.size + 1, 0, none⟩) 0 xs.length] 38)).alloc (.cells #[.slice a1 xs.length c1] 38)) 38 (.slice a2 n2 c2)
    rw [World.size_alloc, World.size_alloc, World.size_alloc, World.size_alloc] at this
    exact this
  have hown0 : W0.ownsRow (w.heap.size + 1) 3 1 (.slice (some ⟨w.heap.size + 1, 0, none⟩) 0 xs.length) 0 [] := by
    rw [← hW0]
    have := World.ownsRow_made (base := w.heap.size + 1) (e := 3) (size := 1) (w.alloc (.cells #[.int .i64 about] 3)) (ints (List.replicate xs.length 0)) xs.length (by simp) (by unfold maxLen; omega) (by simp [ints])
    rw [World.size_alloc] at this
    exact ((this.alloc _).alloc _).alloc _
  rw [hW0]
  have hi1 : IsLB w.heap.size W0 (.slice a1 xs.length c1) xs := IsLB.below (B := w.heap.size) i1 hB0
  have hi2 : IsLB w.heap.size W0 (.slice a2 n2 c2) ys := IsLB.below (B := w.heap.size) i2 hB0
  have hlo := hp.lo
  refine wpIn_rangeFunc_ownF hro h1 (gf := 94) (lb := #[.pointer (some ⟨w.heap.size + 1 + 1 + 1, 0, none⟩), .pointer (some ⟨w.heap.size + 1 + 1 + 1 + 1, 0, none⟩)]) rfl h5 (enters_of Try.func94 (by kernel_rfl) rfl)
    (pairsI_stops F (n - 1) h5 hro (by omega) (w.heap.size + 1 + 1 + 1) (w.heap.size + 1 + 1 + 1 + 1) w.heap.size _ _ xs ys HL.out W0 (by omega) (by omega) (by omega) bP.cell bQ.cell hi1 hi2) KpP.trans (KpP.put (by omega) (by omega) (by omega)) (Below.refl _ _) (fun _ => rfl)
    (fun (pre : List Nat) W => ((((∃ v, Boxed W (w.heap.size + 1 + 1) 38 v ∧ W.ownsRow (w.heap.size + 1) 3 1 v pre.length (pre.map fun i => Value.int .i64 (lev xs ys about i)) ∧ True) ∧ Boxed W w.heap.size 3 (.int .i64 about)) ∧ Boxed W (w.heap.size + 1 + 1 + 1) 38 (.slice a1 xs.length c1)) ∧ Boxed W (w.heap.size + 1 + 1 + 1 + 1) 38 (.slice a2 n2 c2)) ∧ Below w.heap.size w W)
    (fun _ _ _ => False)
    (OwnFrom.and (OwnFrom.and (OwnFrom.and (OwnFrom.and (Own.from (holdsRow_own (w.heap.size + 1) (w.heap.size + 1 + 1) 38 3 1 (fun pre : List Nat => pre.length) (fun pre : List Nat => pre.map fun i => Value.int .i64 (lev xs ys about i)) (fun _ _ => True)) _) (Own.from (boxed_own _ _ _) _)) (Own.from (boxed_own _ _ _) _)) (Own.from (boxed_own _ _ _) _)) (ownFrom_below (Nat.le_refl _) (by omega)))
    (fun _ _ _ _ _ hs _ _ => hs)
    ⟨⟨⟨⟨⟨_, bV, hown0, trivial⟩, bA⟩, bP⟩, bQ⟩, hB0⟩
    (fun (x : Nat) => { tmps := #[.slice a1 xs.length c1, .slice a2 n2 c2, .int .i64 about, undef, undef, .pointer (some ⟨w.heap.size, 0, none⟩), .slice none 0 0, .pointer (some ⟨w.heap.size + 1 + 1, 0, none⟩), .int .i64 (at_ xs x), .int .i64 (at_ ys x), .slice a1 xs.length c1, .int .i64 xs.length, .slice (some ⟨w.heap.size + 1, 0, none⟩) 0 xs.length, .slice a1 xs.length c1, .slice a2 n2 c2, .func (.func 94) #[] #[.pointer (some ⟨w.heap.size + 1 + 1 + 1, 0, none⟩), .pointer (some ⟨w.heap.size + 1 + 1 + 1 + 1, 0, none⟩)], .int .i64 (at_ xs x), .int .i64 (at_ ys x), undef, undef, undef, undef, undef, undef, undef, undef, undef], defers := [] }) ?assign ?body ?done ?stop
  case assign =>
    intro l x W K hK
    gi_wp2
    exact hK
  case body =>
    rintro l pre x W ⟨⟨⟨⟨⟨v, hv, hrow, _⟩, hA⟩, hP⟩, hQ⟩, hB⟩ hlt
    have hc := hv.cell
    have hca := hA.cell
    have bx := pos_bd hp x
    have by' := hy x
    obtain ⟨X, hX⟩ : ∃ X, at_ xs x = X := ⟨_, rfl⟩
    obtain ⟨Y, hY⟩ : ∃ X, at_ ys x = X := ⟨_, rfl⟩
    have hlev : lev xs ys about x = Y * (X - about) := by unfold lev; rw [hX, hY]
    have HLEV := hide hlev; clear hlev
    rw [hX] at bx ⊢
    rw [hY] at by' ⊢
    clear hX hY
    have hmul := mul_lim (a := Y) (b := X - about) (K := 20000) (V := 100000) by' (by omega)
    obtain ⟨bxa, bxb⟩ := bx
    obtain ⟨hm1, hm2⟩ := hmul
    gi_wp2_with (gi_at_builtin; refine wpListIn_append_own _ rfl _ _ 38 rfl (w.heap.size + 1) 3 i0 (.int .i64 0) 1 8 Try.underlying38 hi hz0 hz1 hz2 rfl (by decide) _ _ _ rfl (hrow.alloc _) ⟨W.heap.size, 0, none⟩ 1 1 [.int .i64 (Y * (X - about))] rfl rfl (cell_one_new _ _ _) (by simp [Value.oneCell']) (by unfold maxLen; omega) (by omega) (by have := hA.lt; simp; omega) ?_; intro v' w1 hown' hgrow _; obtain ⟨g', cap', rfl⟩ := ownsRow_succ hown'; obtain ⟨hv1, hv2, hr2, hk2, hb2⟩ := hv.appended (by decide) hrow (by have := hA.lt; omega) (by omega) hown' hgrow; have hc1 := hv1.cell; have hf1 := hv1.frozen)
    have kept : ∀ {B : Nat} {u : Value}, B ≠ w.heap.size + 1 + 1 → some B ≠ v.ownBlock → ∀ {t : TypeId}, Boxed W B t u → Boxed (w1.setCell ⟨w.heap.size + 1 + 1, 0, none⟩ (.slice (some ⟨g', 0, none⟩) (pre.length + 1) cap')) B t u :=
      fun hne hno _ h => (((h.alloc _).kept hgrow hno)).other hne _
    have kP := kept (by omega) (hP.not_row (by decide) hrow) hP
    have kQ := kept (by omega) (hQ.not_row (by decide) hrow) hQ
    have kA : Boxed (w1.setCell ⟨w.heap.size + 1 + 1, 0, none⟩ (.slice (some ⟨g', 0, none⟩) (pre.length + 1) cap')) w.heap.size 3 (.int .i64 about) := (hb2.block _ (by omega)).trans hA
    have hb3 := hb2.mono (show w.heap.size ≤ w.heap.size + 1 by omega)
    refine ⟨hk2, ⟨hb3, kP.trans hP.symm, kQ.trans hQ.symm⟩, ⟨⟨⟨⟨_, hv2, ?_, trivial⟩, kA⟩, kP⟩, kQ⟩, hB.trans hb3⟩
    rw [List.length_append, List.map_append, List.map_cons, List.map_nil, HLEV.out]; exact hr2
  case done =>
    rintro D zs W hD rfl ⟨⟨⟨⟨⟨v, hv, hrow, _⟩, hA⟩, hP⟩, hQ⟩, hB⟩ hK
    have hc := hv.cell
    rw [List.length_range] at hrow
    gi_wp2
    refine ⟨by simp, .inl ⟨_, _, rfl, run_takeDeferred hK, ?_⟩⟩
    exact ⟨_, results_tmp rfl _ _ _, v, rfl, ownsRow_putObj hrow _ hK rfl, hB.trans (belowK_b (w := w) (Nat.le_refl _) W D _ _ (by omega) hK rfl rfl)⟩
  case stop =>
    rintro D c pre W _ _ h _
    exact h.elim
end Go.Proofs.Ytlpoenoijmifdaa
