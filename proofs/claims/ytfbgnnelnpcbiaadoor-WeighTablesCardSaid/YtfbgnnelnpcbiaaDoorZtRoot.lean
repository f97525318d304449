/- The program's function WeighTables, called with any table that the row allows, valid or not, returns true, ends in any run, and changes nothing that was there before the call; the library's tables that the row lists hold what the program's text lays. Conditions: those of the row itself (the machine of the checked program; the listed variables, tied to the text), and no other. -/
import Derived.Test.YtfbgnnelnpcbiaaDoorRows
import Derived.Test.YtfbgnnelnpcbiaaDoorTie
import Derived.Test.YtfbgnnelnpcbiaaDoorCards
import Derived.Test.YtfbgnnelnpcbiaaDoorZt08
import Derived.Test.YtfbgnnelnpcbiaaDoorZt12
import Derived.Test.YtfbgnnelnpcbiaaDoorZt14
import Derived.WalkKit
import Derived.ProofKit
import Derived.LaidMore
import Derived.OpenShut
import Derived.ShutString
import Derived.ChangeOld
import Derived.Below
import Derived.Lib.SmallJoins
import Derived.Lib.LaidTab
import Derived.Stop.LaidErr
import Derived.Stop.Joined
import Derived.SevenTiedAt
import Derived.Deep.Slices
set_option linter.unusedVariables false
set_option linter.unusedSimpArgs false
namespace Go.Proofs.YtfbgnnelnpcbiaaDoor.weighTables
open Go.ChangeShapes Go.WideShapes Go.ChangeAt Go.RowKit
open Go.ChangeMaps (open_string shut_string)
set_option linter.unusedVariables false
open Go.Joins

/-- A slice of integers that came in: by its cell. -/
theorem rowc {H : Type} {enc : TypeId × Value → H} {W : World} {fuel : Nat} {v : Value} {x : DataW H × List MemPlace} (hf : DataW.trod enc Tryd.prog W 0 (fun _ => true) true fuel 22 [v] = some x) : ∃ a n cap xs, v = .slice a n cap ∧ IsL W (.slice a n cap) xs := by
  rcases open_ints Tryd.underlying22 Tryd.underlying3 (by kernel_rfl) hf with ⟨hcs, _⟩ | ⟨a, l, c, zs, hcs, _, hl, hm, hzs, hd, hcell, hwz⟩
  · simp at hcs
    subst hcs
    exact ⟨none, 0, 0, _, rfl, isL_of_row (zs := []) (.inl ⟨rfl, rfl, rfl, rfl⟩)⟩
  · simp at hcs
    subst hcs
    exact ⟨_, _, _, _, rfl, isL_of_row (zs := zs) (.inr ⟨_, rfl, hl, hm, by simpa using hzs, hcell, hwz⟩)⟩

theorem choose_lt {α : Type} [Inhabited α] {p : Nat → α → Prop} {n : Nat} (h : ∀ i, i < n → ∃ x, p i x) : ∃ f : Nat → α, ∀ i, i < n → p i (f i) := by
  classical
  refine ⟨fun i => if hi : i < n then Classical.choose (h i hi) else default, fun i hi => ?_⟩
  simp only [hi, dif_pos]
  exact Classical.choose_spec (h i hi)

/-- A slice of slices of integers that came in. -/
theorem rowsc {H : Type} {enc : TypeId × Value → H} {W : World} {fuel : Nat} {v : Value} {x : DataW H × List MemPlace} (hf : DataW.trod enc Tryd.prog W 0 (fun _ => true) true fuel 23 [v] = some x) : ∃ a n cap vs rows, v = .slice a n cap ∧ IsRB W.heap.size W (.slice a n cap) vs rows := by
  rcases Go.Deep.open_slice1 Tryd.underlying23 (by kernel_rfl) hf with ⟨hcs, _⟩ | ⟨a, l, c, m, fu, V, D, Pl, hcs, _, hl, hm, hmm, _, hel⟩
  · simp at hcs
    subst hcs
    exact ⟨none, 0, 0, [], [], rfl, rfl, fun i hi => absurd hi (by simp), none, 0, rfl, Nat.le_refl _, Nat.zero_le _, fun hne => absurd rfl hne⟩
  · simp at hcs
    subst hcs
    have hml : l ≤ m := by rw [hmm]; split <;> omega
    obtain ⟨X, hX⟩ := choose_lt (α := List Int) (p := fun i xs => IsL W (V i) xs) (n := l) (fun i hi => by
      obtain ⟨_, ht⟩ := hel i (by omega)
      obtain ⟨a', n', c', xs, hv, hx⟩ := rowc ht
      exact ⟨xs, by rw [hv]; exact hx⟩)
    refine ⟨some a, l, c, (List.range l).map V, (List.range l).map X, rfl, by simp, ?_, some a, c, by simp, by simpa using hl, hm, ?_⟩
    · intro i hi
      have hi' : i < l := by simpa using hi
      have e1 : ((List.range l).map V)[i]?.getD undef = V i := by simp [hi']
      have e2 : ((List.range l).map X)[i]?.getD [] = X i := by simp [hi']
      rw [e1, e2]
      exact hX i hi'
    · intro hne
      have hpos : 0 < l := by
        rcases Nat.eq_zero_or_pos l with h0 | h0
        · subst h0; simp at hne
        · exact h0
      obtain ⟨b, off, spot⟩ := a
      have h0 := (hel 0 (by omega)).1
      have hspot : spot = none := by simpa [Addr.add] using World.cell?_spot h0
      subst hspot
      refine ⟨b, off, rfl, ?_, fun i hi => ?_⟩
      · have := lt_of_cell h0
        simpa [Addr.add] using this
      · have hi' : i < l := by simpa using hi
        have h1 := (hel i (by omega)).1
        have e1 : ((List.range l).map V)[i]?.getD undef = V i := by simp [hi']
        rw [e1]
        by_cases hi0 : i = 0
        · subst hi0; simpa [Addr.add] using h1
        · simpa [Addr.add, hi0] using h1

set_option maxRecDepth 100000 in
theorem open_table {H : Type} {enc : TypeId × Value → H} {W : World} {r : Reach} {b0 : Nat} {v : Value} {d : DataW H} {p : List MemPlace} (hv : Value.okWide Tryd.prog W r b0 25 v) (h : DataW.Trod enc Tryd.prog W 0 (fun _ => true) true 25 v d p) :
    ∃ a1 n1 c1 S a2 n2 c2 Wt a3 n3 c3 vs Hv, v = .agg #[.slice a1 n1 c1, .slice a2 n2 c2, .slice a3 n3 c3] ∧ IsL W (.slice a1 n1 c1) S ∧ IsL W (.slice a2 n2 c2) Wt ∧ IsRB W.heap.size W (.slice a3 n3 c3) vs Hv := by
  obtain ⟨v0, v1, v2, y0, y1, y2, m, rfl, _, _, h0, h1, h2⟩ := open_agg3 Tryd.underlying25 (by kernel_rfl) (by kernel_rfl) hv h
  obtain ⟨a1, n1, c1, S, rfl, i1⟩ := rowc h0
  obtain ⟨a2, n2, c2, Wt, rfl, i2⟩ := rowc h1
  obtain ⟨a3, n3, c3, vs, Hv, rfl, i3⟩ := rowsc h2
  exact ⟨a1, n1, c1, S, a2, n2, c2, Wt, a3, n3, c3, vs, Hv, rfl, i1, i2, i3⟩

theorem laid_cond (W : World) (h : laidMetH Tryd.prog Rows.weighTablesRow.laid W) : Lib.TabIs Tryd.prog W "internal/strconv.uint64pow10" .u64 Lib.pow10Tab := by
  rw [MakeChecks.laidMetH_plain _ _ _ (by kernel_rfl)] at h
  exact Lib.tabIs_of_head (g := 0) (t := 106) (e := 83) (n := 20) (k := .u64) (zs := Lib.pow10Tab) (rest := []) (by kernel_rfl) (by kernel_rfl) (by kernel_rfl) (by kernel_rfl) (by kernel_rfl) (by kernel_rfl) (laidMet.tail (laidMet.tail h))

theorem tab_kept {W W' : World} (h : Lib.TabIs Tryd.prog W "internal/strconv.uint64pow10" .u64 Lib.pow10Tab) (hb : Below W.heap.size W W') : Lib.TabIs Tryd.prog W' "internal/strconv.uint64pow10" .u64 Lib.pow10Tab := by
  unfold Lib.TabIs World.var? at h ⊢
  rcases hn : Tryd.prog.globalNamed "internal/strconv.uint64pow10" with _ | g
  · rw [hn] at h; simp at h
  · rw [hn] at h
    simp only [Option.bind_some] at h ⊢
    have hlt : g < W.heap.size := by
      rcases Nat.lt_or_ge g W.heap.size with h' | h'
      · exact h'
      · rw [Array.getElem?_eq_none h'] at h; simp at h
    rw [hb.block g hlt]; exact h

/-- The door's own heap meets the condition. -/
theorem door_met (os : Os) (args : Array Value) : laidMetH Tryd.prog Rows.weighTablesRow.laid ((World.doorLaid Tryd.prog 24 os).forCall (fun _ _ => 0) ⟨#[], args, []⟩).memory :=
  laidMetH_of_parts3 (fuel := 8) (laidMet_of_run' 8 (by kernel_rfl) (by kernel_rfl)) (by kernel_rfl) (by kernel_rfl)

set_option maxRecDepth 100000 in
theorem lifted (os : Os) (started : os.Started) (H : Type) (enc : TypeId × Value → H) :
    ReturnsInHanded {} Tryd.checked os 3 .any (fun w args => (Rows.weighTablesSpec.pre enc Tryd.prog Tryd.f3 [] false w args ∧ laidMetH Tryd.prog Rows.weighTablesRow.laid w) ∧ sizedMet enc Tryd.prog Tryd.f3 (OpenSpec.ofChange Rows.weighTablesSpec) false w args)
      (Rows.weighTablesSpec.post enc Tryd.prog Tryd.f3 false true false false) := by
  refine returnsInHanded_of_change_and (C := Tryd.checked) (X := fun w _ => laidMetH Tryd.prog Rows.weighTablesRow.laid w) (fun _ _ _ hh h => h.of_heap hh) own started (by kernel_rfl) Tryd.func3
    (ChangeSpec.witness_shaped (enc := enc) (C := Tryd.checked) (os := os) (X := fun w _ => laidMetH Tryd.prog Rows.weighTablesRow.laid w) false (World.doorLaid Tryd.prog 24 os) #[.agg #[.slice none 0 0, .slice none 0 0, .slice none 0 0]] 8 rfl (World.shaped_of_RefB (by kernel_rfl) (by kernel_rfl)) (by kernel_rfl) (by kernel_rfl) (by kernel_rfl) (door_met os _)) ?_
  intro W base args ds gs before hval0 hW _ _ hL _
  have hval : ∀ (j : Nat) t v, Tryd.f3.params[j]? = some t → args[j]? = some v → Value.okWide Tryd.prog W .any base t v := hval0
  have hW' := hW
  obtain ⟨p, q, hA0, hV, rfl, hfz, hnd⟩ := hW
  have hA : DataW.TrodAll enc Tryd.prog W 0 (fun _ => true) true Tryd.f3.params.toList args.toList ds p := hA0
  rw [Tryd.params3] at hA hval
  obtain ⟨v0, d0, rfl, rfl, h0⟩ := trodAll_one hA
  obtain ⟨rfl, rfl⟩ := trodVars_none hV
  have k0 := h0
  have lt0 : ∀ x ∈ p, x.block < W.heap.size := by obtain ⟨m, hm⟩ := k0; exact DataW.trod_lt m _ _ _ hm
  obtain ⟨a1, n1, c1, S, a2, n2, c2, Wt, a3, n3, c3, vs, Hv, rfl, i1, i2, i3⟩ := open_table (hval 0 25 v0 rfl rfl) h0
  have hT := laid_cond W hL
  clear hA0 hval0
  refine (lawTables_w a1 a2 a3 n1 n2 n3 c1 c2 c3 vs S Wt Hv W i1 i2 i3 (fun V hb => Print_w a1 a2 a3 n1 n2 n3 c1 c2 c3 vs S Wt Hv V (i1.below hb) (i2.below hb) ((i3.below hb).more hb.size) (fun V' hb' => tab_kept hT (hb.trans (hb'.mono hb.size))))).mono fun e W' ⟨he, bel⟩ => ?_
  subst he
  exact ⟨_, rfl, _, _, _, [], _, [], hW', trodAll_mk1 (shut_bool Tryd.underlying4 _), trodAll_mk1 (Below.trod laidOut (by kernel_rfl) (of_decide_eq_true (by kernel_rfl)) k0 bel lt0), rfl, bel.frame _, fun h => by cases h⟩

theorem over : Rows.WeighTablesSaid :=
  OpenClaim.holds_of_wide 3 Tryd.f3 rfl rfl rfl rfl rfl rfl rfl ⟨rfl, rfl, rfl, rfl, rfl⟩ rfl rfl rfl rfl rfl (by kernel_rfl) Tryd.func3 (by kernel_rfl)
    (of_decide_eq_true (by kernel_rfl)) (by unfold Func.isWrapper; first | (rw [if_pos (by decide +kernel)]; kernel_rfl) | (rw [if_neg (by decide +kernel)]; exact ⟨rfl, rfl⟩))
    (fun os started H enc _ => lifted os started H enc)

theorem proved : Rows.WeighTablesCardSaid :=
  Claim7.holds_tied_plain_at .later [] [.data, .data, .data] true Rows.weighTablesCard.stood.harness false
    over (fun _ h => by cases h) (by kernel_rfl) (fun _ h => by cases h) weighTables_row_tie rfl ⟨rfl, rfl⟩ (by kernel_rfl) rfl
    (fun f fn hf hfn => by
      obtain rfl : f = 3 := Option.some.inj ((show Tryd.prog.funcNamed "moorsom/moorsomlaw01.WeighTables" = some 3 by kernel_rfl).symm.trans hf) |>.symm
      obtain rfl : fn = Tryd.f3 := (Option.some.inj (Tryd.func3.symm.trans hfn)).symm
      exact ⟨by kernel_rfl, fun j t ht => by
        rw [Tryd.params3] at ht
        have h3 : t = 25 := by
          rcases j with _ | j
          · simpa using ht.symm
          · simp at ht
        subst h3
        exact (show Tryd.prog.wantsStandIn 25 = false by kernel_rfl)⟩)
    (by kernel_rfl)
#print axioms proved
end Go.Proofs.YtfbgnnelnpcbiaaDoor.weighTables
