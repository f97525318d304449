import Derived.Test.YtlpoenoijmifdaaRat
import Derived.Laws.OwnMore
set_option linter.unusedVariables false
set_option linter.unusedSimpArgs false
namespace Go.Proofs.Ytlpoenoijmifdaa
open Go.RowKit

/-- Valid positions, said of each index. -/
structure Pos (xs : List Int) : Prop where
  lo : 2 ≤ xs.length
  hi : xs.length ≤ 9
  bd : ∀ i, i < xs.length → 0 ≤ at_ xs i ∧ at_ xs i ≤ 100000
  up : ∀ i, i + 1 < xs.length → at_ xs i < at_ xs (i + 1)

theorem at_get {xs : List Int} {i : Nat} (h : i < xs.length) : at_ xs i = xs[i] := by simp [at_, h]

theorem Pos.of {xs : List Int} (h : rise 9 100000 xs = true) : Pos xs := by
  unfold rise at h
  simp only [Bool.and_eq_true, decide_eq_true_eq] at h
  obtain ⟨⟨⟨h1, h2⟩, h3⟩, h4⟩ := h
  refine ⟨by omega, by omega, fun i hi => ?_, fun i hi => ?_⟩
  · rw [List.all_eq_true] at h3
    have := h3 _ (List.getElem_mem hi)
    rw [at_get hi]
    simpa [inB] using this
  · unfold incTo at h4
    rw [List.all_eq_true] at h4
    have := h4 i (List.mem_range.2 (by omega))
    simpa [at_] using this

/-- The slice value v reads as groups. -/
def IsGB (B : Nat) (w : World) (v : Value) (gs : List (Nat × Nat)) : Prop :=
  ∃ a cap, v = .slice a gs.length cap ∧ gs.length ≤ cap ∧ cap ≤ maxLen ∧
    (gs ≠ [] → ∃ b off, a = some ⟨b, off, none⟩ ∧ b < B ∧ ∀ i, i < gs.length → w.cell? ⟨b, off + i * 2, none⟩ = some (.int .i64 ((gs[i]?.getD (0, 0)).1 : Nat)) ∧ w.cell? ⟨b, off + i * 2 + 1, none⟩ = some (.int .i64 ((gs[i]?.getD (0, 0)).2 : Nat)))

theorem IsGB.keep {B : Nat} {w w' : World} {v : Value} {gs : List (Nat × Nat)} (h : IsGB B w v gs) (hk : ∀ p : Addr, p.block < B → w'.cell? p = w.cell? p) : IsGB B w' v gs := by
  obtain ⟨a, cap, hv, h1, h2, h4⟩ := h
  refine ⟨a, cap, hv, h1, h2, fun hne => ?_⟩
  obtain ⟨b, off, ha, hlt, hc⟩ := h4 hne
  exact ⟨b, off, ha, hlt, fun i hi => ⟨by rw [hk ⟨b, off + i * 2, none⟩ hlt]; exact (hc i hi).1, by rw [hk ⟨b, off + i * 2 + 1, none⟩ hlt]; exact (hc i hi).2⟩⟩

def flatG (gs : List (Nat × Nat)) : List Value := gs.flatMap fun g => [.int .i64 (g.1 : Nat), .int .i64 (g.2 : Nat)]

theorem flatG_snoc (gs : List (Nat × Nat)) (a b : Nat) : flatG (gs ++ [(a, b)]) = flatG gs ++ [.int .i64 (a : Nat), .int .i64 (b : Nat)] := by simp [flatG]

theorem flatG_at (gs : List (Nat × Nat)) : ∀ i, i < gs.length → (flatG gs)[i * 2]? = some (.int .i64 ((gs[i]?.getD (0, 0)).1 : Nat)) ∧ (flatG gs)[i * 2 + 1]? = some (.int .i64 ((gs[i]?.getD (0, 0)).2 : Nat)) := by
  induction gs with
  | nil => intro i h; simp at h
  | cons g gs ih =>
    intro i h
    cases i with
    | zero => simp [flatG]
    | succ i =>
      have := ih i (by simpa using h)
      have e : flatG (g :: gs) = [.int .i64 (g.1 : Nat), .int .i64 (g.2 : Nat)] ++ flatG gs := by simp [flatG]
      rw [e, show (i + 1) * 2 = i * 2 + 2 by omega]
      simpa using this

theorem IsGB.of_own {base e : Nat} {w : World} {v : Value} {gs : List (Nat × Nat)} (h : w.ownsRow base e 2 v gs.length (flatG gs)) : IsGB w.heap.size w v gs := by
  have h0 := h
  obtain ⟨h1, h2⟩ := h
  rcases h2 with ⟨rfl, hn⟩ | ⟨g, cap, cur, rfl, hb, hh, hc, hm, hsz, ht⟩
  · exact ⟨none, 0, by rw [hn], by omega, Nat.zero_le _, fun hne => absurd (List.length_eq_zero_iff.1 hn) hne⟩
  · refine ⟨some ⟨g, 0, none⟩, cap, rfl, hc, hm, fun _ => ⟨g, 0, rfl, ?_, fun i hi => ?_⟩⟩
    · exact (h0.lt g rfl).2
    · have := flatG_at gs i hi
      exact ⟨by rw [Nat.zero_add, h0.cellAt _ (by omega)]; exact this.1, by rw [Nat.zero_add, h0.cellAt _ (by omega)]; exact this.2⟩

/-- The slice's block, if it has one, is none of those below B. -/
def Fresh (B : Nat) (v : Value) : Prop := ∀ k, v.ownBlock = some k → B ≤ k

theorem infoG : (Try.prog.info? 60).map (fun i => (i.zero, i.size, i.bytes)) = some (some (.agg #[.int .i64 0, .int .i64 0]), 2, 16) := by kernel_rfl

theorem ratio_q (a b : Int) (w : World) (h1 : 1 ≤ a) (h2 : a ≤ 100000) (h3 : 1 ≤ b) (h4 : b ≤ 100000) :
    Calls Try.prog 85 #[.int .i64 a, .int .i64 b] w fun e w' => e = .returned (.int .i64 (rat a b)) ∧ w' = w := (ratio_w a b w h1 h2 h3 h4).mono fun _ _ ⟨x, y⟩ => ⟨x, y.symm⟩
theorem times_q (a b : Int) (w : World) (h1 : 1 ≤ a) (h2 : a ≤ 100000) (h3 : 1 ≤ b) (h4 : b ≤ 100000) :
    Calls Try.prog 86 #[.int .i64 a, .int .i64 b] w fun e w' => e = .returned (.int .i64 (rat a b)) ∧ w' = w := (times_w a b w h1 h2 h3 h4).mono fun _ _ ⟨x, y⟩ => ⟨x, y.symm⟩

set_option maxRecDepth 100000 in
set_option maxHeartbeats 1000000 in
theorem groupsOf_w (a : Option Addr) (n cap : Nat) (xs : List Int) (w : World) (h : IsL w (.slice a n cap) xs) (hp : Pos xs) :
    Calls Try.prog 67 #[.slice a n cap] w fun e w' => ∃ v, e = .returned v ∧ IsGB w'.heap.size w' v (grs xs) ∧ Fresh w.heap.size v ∧ Below w.heap.size w w' := by
  obtain ⟨a', cap', hv, hl1, hl2, h3, h4⟩ := h
  cases hv
  unfold maxLen at hl2
  have h2 := hp.lo
  have h9 := hp.hi
  obtain ⟨b, off, rfl, hbl, hc⟩ := h4 (by intro h; subst h; simp at h2)
  have HB := hide hp.bd
  have HU := hide hp.up
  clear hp h3 h4
  obtain ⟨i0, hi, hz0, hz1, hz2⟩ := info_parts infoG
  go_enter Try.func67, Try.ntmps67
  go_wp2
  go_loopw [3, 4] (fun v i wr => ∃ (V : Value) (k : Nat) (gs : List (Nat × Nat)), V = v ∧ i = .int .i64 k ∧ k < xs.length ∧ gs.length ≤ k ∧ wr.ownsRow w.heap.size 60 2 V gs.length (flatG gs) ∧ Below w.heap.size w wr ∧ Hid (grs xs = gs ++ grsFrom xs k)) (fun _ i _ => xs.length - (intOf i).toNat)
  case atStart => exact ⟨_, 0, [], rfl, rfl, by omega, Nat.le_refl _, World.ownsRow_nil _ _ _ _, Below.refl _ _, rfl⟩
  case round =>
    obtain ⟨v, k, gs, rfl, rfl, hk, hgk, hown, hbel, hgr⟩ := hrel
    have hcw : ∀ j, j < xs.length → wr.cell? ⟨b, off + j, none⟩ = some (.int .i64 (at_ xs j)) := fun j hj => by
      rw [hbel.cell (p := ⟨b, off + j, none⟩) hbl]; exact hc j hj
    have HCW := hide hcw; clear hcw hc
    by_cases hlt : k + 1 < xs.length
    · have hl3 : (k : Int) + 1 < xs.length := by omega
      by_cases hlt2 : k + 2 < xs.length
      · have hl4 : (k : Int) + 2 < xs.length := by omega
        have c0 := HCW.out k (by omega)
        have c1 := HCW.out (k + 1) (by omega)
        have c2 := HCW.out (k + 2) (by omega)
        have u0 := HU.out k hlt
        have u1 := HU.out (k + 1) (by omega)
        have b0 := HB.out k (by omega)
        have b2 := HB.out (k + 2) (by omega)
        obtain ⟨x, hx⟩ : ∃ x, at_ xs k = x := ⟨_, rfl⟩
        obtain ⟨y, hy⟩ : ∃ x, at_ xs (k + 1) = x := ⟨_, rfl⟩
        obtain ⟨z, hz⟩ : ∃ x, at_ xs (k + 2) = x := ⟨_, rfl⟩
        have hmany : Hid (many xs k = if rat (y - x) (z - y) ≠ 0 then 2 else 1) := by
          show many xs k = _; unfold many; rw [hx, hy, hz]; simp only [hlt2, true_and]
        rw [hx] at c0 u0 b0
        rw [hy] at c1 u0 u1
        rw [hz] at c2 u1 b2
        clear hx hy hz
        obtain ⟨b0a, b0b⟩ := b0
        obtain ⟨b2a, b2b⟩ := b2
        by_cases hr : rat (y - x) (z - y) = 0
        · have hm1 : Hid (many xs k = 1) := by show _ = _; rw [hmany.out, hr]; rfl
          clear hmany
          go_wp2
          go_quiet ((go_at_call 85; exact Calls.quiet_of_same (ratio_q _ _ _ (by omega) (by omega) (by omega) (by omega))))
          have hown2 : (wr.drewN nq).ownsRow w.heap.size 60 2 v gs.length (flatG gs) := hown
          have hbel2 := below_drewN hbel nq
          clear hown hbel HCW
          generalize wr.drewN nq = w2 at hown2 hbel2 ⊢
          go_wp2_with (at_builtin; refine wpList_append_own _ rfl (.tmp 41) (.tmp 45) 39 rfl w.heap.size 60 i0 _ 2 16 Try.underlying39 hi hz0 hz1 hz2 rfl (by decide) _ gs.length (flatG gs) rfl (hown2.alloc _) ⟨w2.heap.size, 0, none⟩ 1 1 [.int .i64 (k : Nat), .int .i64 1] rfl rfl (cell_two_new _ _ _ _) (by simp [Value.oneCell']) (by simp only [maxLen]; omega) (by omega) (by have := hbel2.size; simp; omega) ?_; intro v' w1 hown' hgrow _)
          go_roundw
          case rel => exact ⟨_, k + 1, gs ++ [(k, 1)], rfl, by go_num, by omega, by simp; omega, by rw [List.length_append, flatG_snoc]; exact hown', (hbel2.alloc hbel2.size _).grown hgrow (by have := hbel2.size; simp; omega) (fun g hg => (hown2.lt g hg).1), hide (by rw [hgr.out, grsFrom_step xs k hlt, hm1.out]; simp)⟩
          case measure => simp [intOf]; omega
        · have hm2 : Hid (many xs k = 2) := by show _ = _; rw [hmany.out, if_pos hr]
          have hr1 : (rat (y - x) (z - y) != 0) = true := by simpa using hr
          clear hmany hr
          go_wp2
          go_quiet ((go_at_call 85; exact Calls.quiet_of_same (ratio_q _ _ _ (by omega) (by omega) (by omega) (by omega))))
          have hown2 : (wr.drewN nq).ownsRow w.heap.size 60 2 v gs.length (flatG gs) := hown
          have hbel2 := below_drewN hbel nq
          clear hown hbel HCW
          generalize wr.drewN nq = w2 at hown2 hbel2 ⊢
          go_wp2_with (at_builtin; refine wpList_append_own _ rfl (.tmp 41) (.tmp 45) 39 rfl w.heap.size 60 i0 _ 2 16 Try.underlying39 hi hz0 hz1 hz2 rfl (by decide) _ gs.length (flatG gs) rfl (hown2.alloc _) ⟨w2.heap.size, 0, none⟩ 1 1 [.int .i64 (k : Nat), .int .i64 2] rfl rfl (cell_two_new _ _ _ _) (by simp [Value.oneCell']) (by simp only [maxLen]; omega) (by omega) (by have := hbel2.size; simp; omega) ?_; intro v' w1 hown' hgrow _)
          go_roundw
          case rel => exact ⟨_, k + 2, gs ++ [(k, 2)], rfl, by go_num, by omega, by simp; omega, by rw [List.length_append, flatG_snoc]; exact hown', (hbel2.alloc hbel2.size _).grown hgrow (by have := hbel2.size; simp; omega) (fun g hg => (hown2.lt g hg).1), hide (by rw [hgr.out, grsFrom_step xs k hlt, hm2.out]; simp)⟩
          case measure => simp [intOf]; omega
      · have hm1 : Hid (many xs k = 1) := by show many xs k = 1; unfold many; rw [if_neg]; omega
        have hl4 : decide ((k : Int) + 2 < xs.length) = false := by simp; omega
        go_wp2
        go_quiet (fail)
        have hown2 : (wr.drewN nq).ownsRow w.heap.size 60 2 v gs.length (flatG gs) := hown
        have hbel2 := below_drewN hbel nq
        clear hown hbel HCW
        generalize wr.drewN nq = w2 at hown2 hbel2 ⊢
        go_wp2_with (at_builtin; refine wpList_append_own _ rfl (.tmp 41) (.tmp 45) 39 rfl w.heap.size 60 i0 _ 2 16 Try.underlying39 hi hz0 hz1 hz2 rfl (by decide) _ gs.length (flatG gs) rfl (hown2.alloc _) ⟨w2.heap.size, 0, none⟩ 1 1 [.int .i64 (k : Nat), .int .i64 1] rfl rfl (cell_two_new _ _ _ _) (by simp [Value.oneCell']) (by simp only [maxLen]; omega) (by omega) (by have := hbel2.size; simp; omega) ?_; intro v' w1 hown' hgrow _)
        go_roundw
        case rel => exact ⟨_, k + 1, gs ++ [(k, 1)], rfl, by go_num, by omega, by simp; omega, by rw [List.length_append, flatG_snoc]; exact hown', (hbel2.alloc hbel2.size _).grown hgrow (by have := hbel2.size; simp; omega) (fun g hg => (hown2.lt g hg).1), hide (by rw [hgr.out, grsFrom_step xs k hlt, hm1.out]; simp)⟩
        case measure => simp [intOf]; omega
    · have hl3 : ¬ ((k : Int) + 1 < xs.length) := by omega
      have hge : Hid (grs xs = gs) := by show _ = _; rw [hgr.out, grsFrom_end xs k hlt, List.append_nil]
      go_wp2
      go_ret
      exact ⟨_, rfl, by rw [hge.out]; exact IsGB.of_own hown, fun g hg => (hown.lt g hg).1, hbel⟩
end Go.Proofs.Ytlpoenoijmifdaa
