import Derived.Test.YtlpoenoijmifdaaGro
set_option linter.unusedVariables false
set_option linter.unusedSimpArgs false
namespace Go.Proofs.Ytlpoenoijmifdaa
open Go.RowKit

set_option maxRecDepth 100000 in
set_option maxHeartbeats 1000000 in
/-- A copy of a slice that is not empty. -/
theorem clone_w (b off n cap : Nat) (xs : List Int) (w : World) (h : IsL w (.slice (some ⟨b, off, none⟩) n cap) xs) (h0 : 0 < xs.length) (h1 : xs.length ≤ 1000) :
    Calls Try.prog 77 #[.slice (some ⟨b, off, none⟩) n cap] w fun e w' => ∃ v, e = .returned v ∧ Own w.heap.size w' v xs ∧ Below w.heap.size w w' := by
  obtain ⟨_, _, hv, hl1, hl2, h3, h4⟩ := h
  obtain ⟨rfl, rfl, rfl⟩ := Value.slice.inj hv
  obtain ⟨_, _, e, hbl, hc⟩ := h4 (by intro h; rw [h] at h0; simp at h0)
  cases e
  have hcs : ∀ i, i < xs.length → (w.alloc (.cells #[] 3)).cell? ⟨b, off + i, none⟩ = some (.int .i64 (at_ xs i)) := by
    intro i hi
    rw [((Below.refl w.heap.size w).alloc (Nat.le_refl _) _).cell (p := ⟨b, off + i, none⟩) hbl]
    exact hc i hi
  have HCS := hide hcs
  have hsA : (w.alloc (.cells #[] 3)).heap.size = w.heap.size + 1 := World.size_alloc _ _
  have HSA := hide hsA
  clear hcs hsA hc h4 h3 hv
  have hnil : ∀ W : World, (binOp .eql 38 (.slice (some ⟨b, off, none⟩) xs.length cap) (.slice none 0 0)).run Try.prog W = .ok (.bool false) W := fun W => Lib.run_eql_slice_nil W _ _ _ _ _ _ _ Try.underlying38
  go_enter Try.func77, Try.ntmps77
  go_wp2_with (at_builtin; refine cat_w rfl (.tmp 5) (.tmp 6) rfl w.heap.size (w.alloc (.cells #[] 3)) _ [] xs b off xs.length _ (Own.none' w (Nat.le_refl _)) rfl rfl rfl HCS.out (by simp; omega) (by rw [HSA.out]; omega) ?_; intro v' w7 ho7 hg7 _)
  have hB7 := ((Below.refl w.heap.size w).alloc (Nat.le_refl _) (.cells #[] 3)).trans (grown_below (Own.none' w (Nat.le_refl _)) (by rw [HSA.out]; omega) hg7)
  rw [List.nil_append] at ho7
  go_ret
  exact ⟨_, rfl, ho7, hB7⟩

/-- Two lists of groups are equal. -/
def eqG (a b : List (Nat × Nat)) : Bool := decide (a = b)
theorem eqG_t {a b : List (Nat × Nat)} (hl : a.length = b.length) (h : ∀ i, i < a.length → gAt a i = gAt b i) : eqG a b = true := by
  unfold eqG
  rw [decide_eq_true_eq]
  apply List.ext_getElem hl
  intro i h1 h2
  have := h i h1
  unfold gAt at this
  rw [List.getElem?_eq_getElem h1, List.getElem?_eq_getElem h2] at this
  exact this
theorem eqG_f {a b : List (Nat × Nat)} {i : Nat} (h : gAt a i ≠ gAt b i) : eqG a b = false := by
  unfold eqG; rw [decide_eq_false_iff_not]; intro e; exact h (by rw [e])
theorem eqG_len {a b : List (Nat × Nat)} (h : a.length ≠ b.length) : eqG a b = false := by
  unfold eqG; rw [decide_eq_false_iff_not]; intro e; exact h (by rw [e])

set_option maxHeartbeats 1000000 in
theorem equalG_w (v1 v2 : Value) (xs ys : List (Nat × Nat)) (w : World) (B1 B2 : Nat) (h1 : IsGB B1 w v1 xs) (h2 : IsGB B2 w v2 ys) :
    Calls Try.prog 90 #[v1, v2] w fun e w' => e = .returned (.bool (eqG xs ys)) ∧ Drew w w' := by
  obtain ⟨a1, c1, rfl, l1, m1, k1⟩ := h1
  obtain ⟨a2, c2, rfl, l2, m2, k2⟩ := h2
  unfold maxLen at m1 m2
  by_cases hl : xs.length = ys.length
  · have hl0 : ((xs.length : Int) != (ys.length : Int)) = false := by simp; omega
    have HL := hide hl
    clear hl
    go_enter Try.func90, Try.ntmps90
    go_wp2
    go_loopw [13] (fun i wr => ∃ k n : Nat, i = .int .i64 k ∧ k ≤ xs.length ∧ Hid (∀ i, i < k → gAt xs i = gAt ys i) ∧ wr = w.drewN n) (fun i _ => xs.length - (intOf i).toNat)
    case atStart => exact ⟨0, 0, rfl, Nat.zero_le _, hide (by intro i hi; omega), rfl⟩
    case round =>
      obtain ⟨k, n, rfl, hk, hall, rfl⟩ := hrel
      by_cases hlt : k < xs.length
      · obtain ⟨b1, o1, rfl, hb1, hc1⟩ := k1 (by intro h; rw [h] at hlt; simp at hlt)
        obtain ⟨b2, o2, rfl, hb2, hc2⟩ := k2 (by intro h; have := HL.out; rw [h] at this; simp at this; subst this; simp at hlt)
        obtain ⟨p1, p2⟩ := hc1 k hlt
        obtain ⟨q1, q2⟩ := hc2 k (by have := HL.out; omega)
        obtain ⟨⟨x1, x2⟩, hx⟩ : ∃ g, gAt xs k = g := ⟨_, rfl⟩
        obtain ⟨⟨y1, y2⟩, hy⟩ : ∃ g, gAt ys k = g := ⟨_, rfl⟩
        have hx' : xs[k]?.getD (0, 0) = (x1, x2) := hx
        have hy' : ys[k]?.getD (0, 0) = (y1, y2) := hy
        rw [hx'] at p1 p2
        rw [hy'] at q1 q2
        simp only at p1 p2 q1 q2
        have p3 : w.cell? ⟨b1, o1 + (k * 2 + 1), none⟩ = some (.int .i64 (x2 : Nat)) := p2
        have q3 : w.cell? ⟨b2, o2 + (k * 2 + 1), none⟩ = some (.int .i64 (y2 : Nat)) := q2
        have hn : (x1 = y1 ∧ x2 = y2) → ∀ i, i < k + 1 → gAt xs i = gAt ys i := by
          intro h i hi
          by_cases hik : i = k
          · subst hik; rw [hx, hy, h.1, h.2]
          · exact hall.out i (by omega)
        have hf : ¬ (x1 = y1 ∧ x2 = y2) → eqG xs ys = false := fun h => eqG_f (i := k) (by rw [hx, hy]; intro e; exact h ⟨congrArg Prod.fst e, congrArg Prod.snd e⟩)
        have HN := hide hn; have HF := hide hf
        have hl3 : (k : Int) < xs.length := by omega
        have hl4 : (k : Int) < ys.length := by have := HL.out; omega
        clear hn hf hx hy hx' hy' hc1 hc2 k1 k2
        by_cases hxy : x1 = y1 ∧ x2 = y2
        · have HNN := hide (HN.out hxy)
          clear HN HF
          obtain ⟨rfl, rfl⟩ := hxy
          go_wp2
          go_quiet (fail)
          go_wp2
          go_roundw
          case rel => exact ⟨k + 1, _, by go_num, by omega, HNN, (by first | rfl | exact World.drewN_drewN _ _ _)⟩
          case measure => simp [intOf]; omega
        · have HFF := hide (HF.out hxy)
          clear HN HF
          by_cases hx1 : x1 = y1
          · subst hx1
            have hx2 : ((x2 : Nat) : Int) ≠ (y2 : Nat) := by intro h; exact hxy ⟨rfl, by omega⟩
            have hx3 : (((x2 : Nat) : Int) == (y2 : Nat)) = false := by simpa using hx2
            have hx4 : ¬ x2 = y2 := by omega
            clear hxy
            go_wp2
            go_quiet (fail)
            go_wp2
            go_ret
            exact ⟨ret_bool HFF.out.symm, (by first | exact ⟨_, rfl⟩ | exact ⟨_, World.drewN_drewN _ _ _⟩)⟩
          · have hx2 : ((x1 : Nat) : Int) ≠ (y1 : Nat) := by intro h; omega
            have hx3 : (((x1 : Nat) : Int) == (y1 : Nat)) = false := by simpa using hx2
            clear hxy
            go_wp2
            go_quiet (fail)
            go_wp2
            go_ret
            exact ⟨ret_bool HFF.out.symm, (by first | exact ⟨_, rfl⟩ | exact ⟨_, World.drewN_drewN _ _ _⟩)⟩
      · have hl3 : ¬ ((k : Int) < xs.length) := by omega
        have HE := hide (eqG_t HL.out (fun i hi => hall.out i (by omega)))
        go_wp2
        go_ret
        exact ⟨ret_bool HE.out.symm, (by first | exact ⟨_, rfl⟩ | exact ⟨0, rfl⟩)⟩
  · have hl0 : ((xs.length : Int) != (ys.length : Int)) = true := by simp; omega
    have HE := hide (eqG_len hl)
    clear hl
    go_enter Try.func90, Try.ntmps90
    go_wp2
    go_ret
    exact ⟨ret_bool HE.out.symm, ⟨0, rfl⟩⟩
end Go.Proofs.Ytlpoenoijmifdaa
