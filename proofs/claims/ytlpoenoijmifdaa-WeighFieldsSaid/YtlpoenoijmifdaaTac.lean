import Derived.Test.YtlpoenoijmifdaaTab
set_option linter.unusedVariables false
set_option linter.unusedSimpArgs false
namespace Go.Proofs.Ytlpoenoijmifdaa
open Go.RowKit Go.Shelf

theorem tab_not1 {S W : List Int} {H : List (List Int)} (h : planB S W = false) : tabE S W H = 13 := by unfold tabE tabB; rw [h]; rfl
theorem tab_not2 {S W : List Int} {H : List (List Int)} (h : ¬ H.length = S.length) : tabE S W H = 13 := by unfold tabE tabB; rw [decide_eq_false h]; simp
theorem tab_not3 {S W : List Int} {H : List (List Int)} (h : H.all (rowB W) = false) : tabE S W H = 13 := by unfold tabE tabB; rw [h]; simp

set_option maxRecDepth 100000 in
set_option maxHeartbeats 2000000 in
theorem CheckTable_w (vS vW vH : Value) (vs : List Value) (S W : List Int) (H : List (List Int)) (w : World) (i1 : IsL w vS S) (i2 : IsL w vW W) (i3 : IsRB w.heap.size w vH vs H) :
    Calls Try.prog 81 #[.agg #[vS, vW, vH]] w fun e w' => e = .returned (.int .i64 (tabE S W H)) ∧ Below w.heap.size w w' := by
  obtain ⟨a1, c1, rfl, _⟩ := id i1
  obtain ⟨a2, c2, rfl, _⟩ := id i2
  obtain ⟨h0, hrow, a3, c3, rfl, l3, m3, k3⟩ := i3
  unfold maxLen at m3
  have hb0 : ∀ o : Obj, Below w.heap.size w (w.alloc o) := fun o => (Below.refl _ _).alloc (Nat.le_refl _) _
  have hpl := fun o => plan_w a1 a2 S.length W.length c1 c2 S W (w.alloc o) (i1.below (hb0 o)) (i2.below (hb0 o))
  have HPL := hide hpl; clear hpl
  cases hp : planB S W with
  | false =>
    have E : Hid (tabE S W H = 13) := tab_not1 hp
    have e1 : planE S W = 12 := by unfold planE; rw [hp]; rfl
    rw [e1] at HPL
    clear hp e1
    go_enter Try.func81, Try.ntmps81
    go_wp2_with (go_at_call 92; refine (HPL.out _).mono ?_; rintro e w' ⟨rfl, k, rfl⟩)
    go_ret
    exact ⟨ret_int E.out.symm, (by repeat (first | exact Below.refl _ _ | assumption | refine Below.alloc ?_ (by first | omega | (simp; omega) | simp) _ | refine Below.setCell ?_ (by first | omega | (simp; omega) | simp) _ | refine below_drewN ?_ _ | refine Below.drew ?_ | refine back ?_ (by assumption)))⟩
  | true =>
    have e1 : planE S W = 0 := by unfold planE; rw [hp]; rfl
    rw [e1] at HPL
    clear e1
    by_cases hl : H.length = S.length
    · have d1 : ((H.length : Int) != (S.length : Int)) = false := by simp; omega
      have EN := hide (tab_not3 (S := S) (W := W) (H := H))
      have EY : Hid (H.all (rowB W) = true → tabE S W H = 0) := by intro h; unfold tabE tabB; rw [hp, decide_eq_true hl, h]; rfl
      clear hl hp
      have HROW := hide hrow; clear hrow
      go_enter Try.func81, Try.ntmps81
      go_wp2_with (go_at_call 92; refine (HPL.out _).mono ?_; rintro e w' ⟨rfl, k, rfl⟩)
      go_loopw [23] (fun i wr => ∃ k n : Nat, i = .int .i64 k ∧ k ≤ H.length ∧ Hid ((H.take k).all (rowB W) = true) ∧ wr = (w.alloc (.cells #[.slice a1 S.length c1, .slice a2 W.length c2, .slice a3 H.length c3] 70)).drewN n) (fun i _ => H.length - (intOf i).toNat)
      case atStart => exact ⟨0, _, rfl, Nat.zero_le _, hide (by simp), rfl⟩
      case round =>
        obtain ⟨k, n, rfl, hk, hall, rfl⟩ := hrel
        by_cases hlt : k < H.length
        · obtain ⟨b, off, rfl, hbl, hc⟩ := k3 (by intro h; subst h; simp at hlt)
          have hck := hc k hlt
          have hrk := HROW.out k hlt
          have hx : H[k]?.getD [] = H[k] := by simp [hlt]
          rw [hx] at hrk
          have hta := take_all (rowB W) H k hlt
          have htf := all_false (rowB W) H k hlt
          obtain ⟨r, hr⟩ : ∃ r, H[k] = r := ⟨_, rfl⟩
          rw [hr] at hrk hta htf
          have HTA := hide hta; have HTF := hide htf
          have hri := hrk
          obtain ⟨ar, cr, hvr, _⟩ := hrk
          rw [hvr] at hck hri
          have hwi := fun n : Nat => within_q ar r.length cr r 0 20000 ((w.alloc (.cells #[.slice a1 S.length c1, .slice a2 W.length c2, .slice (some ⟨b, off, none⟩) H.length c3] 70)).drewN n) (IsL.drewN (IsL.below hri (hb0 _)) n)
          have HWI := hide hwi
          clear hwi hri hvr hr hta htf hx hc
          have hl3 : (k : Int) < H.length := by omega
          by_cases hl4 : r.length = W.length
          · have d2 : ((r.length : Int) != (W.length : Int)) = false := by simp; omega
            cases ha : r.all (inB 0 20000) with
            | true =>
              rw [ha] at HWI
              have HN : Hid ((H.take (k + 1)).all (rowB W) = true) := by show _ = _; rw [HTA.out, hall.out]; unfold rowB; rw [ha, decide_eq_true hl4]; rfl
              clear hl4 ha
              go_wp2_with (go_at_call 71; refine (HWI.out _).mono ?_; rintro e w' ⟨rfl, rfl⟩)
              go_roundw
              case rel => exact ⟨k + 1, _, by go_num, by omega, HN, (by first | rfl | exact World.drewN_drewN _ _ _)⟩
              case measure => simp [intOf]; omega
            | false =>
              rw [ha] at HWI
              have HN := hide (EN.out (HTF.out (by unfold rowB; rw [ha]; simp)))
              clear hl4 ha
              go_wp2_with (go_at_call 71; refine (HWI.out _).mono ?_; rintro e w' ⟨rfl, rfl⟩)
              go_ret
              exact ⟨ret_int HN.out.symm, (by repeat (first | exact Below.refl _ _ | assumption | refine Below.alloc ?_ (by first | omega | (simp; omega) | simp) _ | refine Below.setCell ?_ (by first | omega | (simp; omega) | simp) _ | refine below_drewN ?_ _ | refine Below.drew ?_ | refine back ?_ (by assumption)))⟩
          · have d2 : ((r.length : Int) != (W.length : Int)) = true := by simp; omega
            have HN := hide (EN.out (HTF.out (by unfold rowB; rw [decide_eq_false hl4]; simp)))
            clear hl4
            go_wp2
            go_ret
            exact ⟨ret_int HN.out.symm, (by repeat (first | exact Below.refl _ _ | assumption | refine Below.alloc ?_ (by first | omega | (simp; omega) | simp) _ | refine Below.setCell ?_ (by first | omega | (simp; omega) | simp) _ | refine below_drewN ?_ _ | refine Below.drew ?_ | refine back ?_ (by assumption)))⟩
        · have hl3 : ¬ ((k : Int) < H.length) := by omega
          have HN := hide (EY.out (by have := hall.out; rw [List.take_of_length_le (by omega)] at this; exact this))
          go_wp2
          go_ret
          exact ⟨ret_int HN.out.symm, (by repeat (first | exact Below.refl _ _ | assumption | refine Below.alloc ?_ (by first | omega | (simp; omega) | simp) _ | refine Below.setCell ?_ (by first | omega | (simp; omega) | simp) _ | refine below_drewN ?_ _ | refine Below.drew ?_ | refine back ?_ (by assumption)))⟩
    · have d1 : ((H.length : Int) != (S.length : Int)) = true := by simp; omega
      have E : Hid (tabE S W H = 13) := tab_not2 hl
      clear hl hp
      go_enter Try.func81, Try.ntmps81
      go_wp2_with (go_at_call 92; refine (HPL.out _).mono ?_; rintro e w' ⟨rfl, k, rfl⟩)
      go_ret
      exact ⟨ret_int E.out.symm, (by repeat (first | exact Below.refl _ _ | assumption | refine Below.alloc ?_ (by first | omega | (simp; omega) | simp) _ | refine Below.setCell ?_ (by first | omega | (simp; omega) | simp) _ | refine below_drewN ?_ _ | refine Below.drew ?_ | refine back ?_ (by assumption)))⟩
end Go.Proofs.Ytlpoenoijmifdaa
