import Derived.Test.YtijakfkgcloplaaDot
import Derived.Test.YtijakfkgcloplaaAre
import Derived.Test.YtijakfkgcloplaaWgh
set_option linter.unusedVariables false
set_option linter.unusedSimpArgs false
namespace Go.Proofs.Ytijakfkgcloplaa
open Go.RowKit Go.Shelf

set_option maxHeartbeats 1000000 in
theorem rords_w (a1 a2 : Option Addr) (n1 n2 c1 c2 : Nat) (xs ys : List Int) (w : World) (i1 : IsL w (.slice a1 n1 c1) xs) (i2 : IsL w (.slice a2 n2 c2) ys) :
    Calls Try.prog 75 #[.slice a1 n1 c1, .slice a2 n2 c2] w fun e w' => e = .returned (.int .i64 (ordE xs ys)) ∧ Drew w w' := by
  have hn1 : n1 = xs.length := by obtain ⟨_, _, hv, _⟩ := i1; cases hv; rfl
  have hn2 : n2 = ys.length := by obtain ⟨_, _, hv, _⟩ := i2; cases hv; rfl
  subst hn1; subst hn2
  have hpl := rplaces_w a1 xs.length c1 xs w i1
  cases hr : rise 9 100000 xs with
  | false =>
    have e1 : pl xs = 12 := by unfold pl; rw [hr]; rfl
    have e2 : Hid (ordE xs ys = 12) := by show _ = _; unfold ordE; rw [hr]; rfl
    rw [e1] at hpl
    have HP := hide hpl; clear hpl hr e1
    go_enter Try.func75, Try.ntmps75
    go_wp2_with (go_at_call 40; refine HP.out.mono ?_; rintro e w' ⟨rfl, k, rfl⟩)
    go_ret
    exact ⟨ret_int e2.out.symm, _, rfl⟩
  | true =>
    have e1 : pl xs = 0 := by unfold pl; rw [hr]; rfl
    rw [e1] at hpl
    have HP := hide hpl; clear hpl e1
    by_cases hl : ys.length = xs.length
    · have d1 : ((ys.length : Int) != (xs.length : Int)) = false := by simp; omega
      have HR := hide hr; have HL := hide hl
      clear hr hl
      obtain ⟨a2', c2', hv, h1, h2, h3, h4⟩ := i2
      cases hv
      unfold maxLen at h2
      go_enter Try.func75, Try.ntmps75
      go_wp2_with (go_at_call 40; refine HP.out.mono ?_; rintro e w' ⟨rfl, q, rfl⟩)
      go_loop [5] (fun i => ∃ k : Nat, i = .int .i64 k ∧ k ≤ ys.length ∧ Hid ((ys.take k).all (inB (-20000) 20000) = true)) (fun i => ys.length - (intOf i).toNat)
      case atStart => exact ⟨0, rfl, Nat.zero_le _, hide (by simp)⟩
      case round =>
        obtain ⟨k, rfl, hk, hall⟩ := hrel
        by_cases hlt : k < ys.length
        · obtain ⟨b, off, rfl, hbl, hc⟩ := h4 (by intro h; subst h; simp at hlt)
          have hck := hc k hlt
          have hx : ys[k]?.getD 0 = ys[k] := by simp [hlt]
          rw [hx] at hck
          obtain ⟨x, hxk⟩ : ∃ x, ys[k] = x := ⟨_, rfl⟩
          rw [hxk] at hck
          clear hx hc h3
          have HX := hide hxk; clear hxk
          by_cases hr : -20000 ≤ x ∧ x ≤ 20000
          · have HN : Hid ((ys.take (k + 1)).all (inB (-20000) 20000) = true) := by show _ = _; rw [take_all _ _ _ hlt, hall.out, HX.out, inB_t hr]; rfl
            obtain ⟨hr1, hr2⟩ := hr
            go_wp2
            go_round
            case rel => exact ⟨k + 1, by go_num, by omega, HN⟩
            case measure => simp [intOf]; omega
          · have HN : Hid (ordE xs ys = 1) := by
              show _ = _
              have this : ys.all (inB (-20000) 20000) = false := all_false _ _ k hlt (by rw [HX.out]; exact inB_f hr)
              unfold ordE; rw [HR.out, if_pos rfl, if_neg (by intro h; rw [this] at h; simp at h)]
            by_cases hr1 : x < -20000
            · go_wp2
              go_ret
              exact ⟨ret_int HN.out.symm, _, rfl⟩
            · have hr2 : 20000 < x := by omega
              go_wp2
              go_ret
              exact ⟨ret_int HN.out.symm, _, rfl⟩
        · have hkl : k = ys.length := by omega
          have HN : Hid (ordE xs ys = 0) := by
            have := hall.out; rw [List.take_of_length_le (by omega)] at this
            show _ = _; unfold ordE; rw [HR.out, if_pos rfl, if_pos ⟨HL.out, this⟩]
          clear hkl
          go_wp2
          go_ret
          exact ⟨ret_int HN.out.symm, _, rfl⟩
    · have d1 : ((ys.length : Int) != (xs.length : Int)) = true := by simp; omega
      have e2 : Hid (ordE xs ys = 1) := by show _ = _; unfold ordE; rw [hr, if_pos rfl, if_neg (by intro h; exact hl h.1)]
      clear hr hl
      go_enter Try.func75, Try.ntmps75
      go_wp2_with (go_at_call 40; refine HP.out.mono ?_; rintro e w' ⟨rfl, k, rfl⟩)
      go_ret
      exact ⟨ret_int e2.out.symm, _, rfl⟩

set_option maxHeartbeats 1000000 in
theorem rArea_w (a1 a2 : Option Addr) (n1 n2 c1 c2 : Nat) (xs ys : List Int) (w : World) (i1 : IsL w (.slice a1 n1 c1) xs) (i2 : IsL w (.slice a2 n2 c2) ys) :
    Calls Try.prog 42 #[.slice a1 n1 c1, .slice a2 n2 c2] w fun e w' => e = .returned (.tuple #[.int .i64 (areaV xs ys), .int .i64 (ordE xs ys)]) ∧ Below w.heap.size w w' := by
  have HO := hide (rords_w a1 a2 n1 n2 c1 c2 xs ys w i1 i2)
  by_cases h0 : ordE xs ys = 0
  · obtain ⟨hp, hl, hy⟩ := ord_zero h0
    have hi := fun k : Nat => rweights_w a1 n1 c1 xs (w.drewN k) (i1.drewN k) hp
    have HI := hide hi; clear hi
    have e2 : Hid (areaV xs ys = ipN (wts xs) ys xs.length) := by show _ = _; unfold areaV; rw [if_pos h0, dot_ip ys hp]
    have HL := hide hl; have HZ := hide h0; have HP := hide hp; have HY := hide hy; have h9 := hp.hi; have h2 := hp.lo; have H2 := hide i2
    clear hl hp hy i1 i2
    go_enter Try.func42, Try.ntmps42
    go_wp2_with (first | (go_at_call 75; refine HO.out.mono ?_; rintro e w' ⟨rfl, k, rfl⟩) | (go_at_call 70; refine (HI.out _).mono ?_; rintro e w1 ⟨v, rfl, hv, hf, hb⟩))
    have hB : Below w.heap.size w w1 := (below_drewN (Below.refl _ _) _).trans hb
    obtain ⟨a3, c3, rfl, l3, m3, _, k3⟩ := id hv
    rw [wts_len] at l3
    unfold maxLen at m3
    obtain ⟨a2', c2', hv2, _, _, _, k2⟩ := IsLB.below (B := w.heap.size) H2.out hB
    cases hv2
    have hwl := wts_len xs
    obtain ⟨b3, o3, rfl, _, hc3⟩ := k3 (by intro h; have := congrArg List.length h; rw [hwl, List.length_nil] at this; omega)
    obtain ⟨b2, o2, rfl, _, hc2⟩ := k2 (by intro h; have h8 := congrArg List.length h; rw [List.length_nil] at h8; have := HL.out; omega)
    have HC2 := hide hc2; have HC3 := hide hc3
    clear hc2 hc3 k2 k3 hf hb hv h0
    go_loopw [8, 9] (fun s i wr => ∃ (k q : Nat) (S : Int), i = .int .i64 k ∧ k ≤ xs.length ∧ s = .int .i64 S ∧ Hid (ipN (wts xs) ys k = S) ∧ wr = w1.drewN q) (fun _ i _ => xs.length - (intOf i).toNat)
    case atStart => exact ⟨0, 0, 0, rfl, Nat.zero_le _, rfl, hide rfl, rfl⟩
    case round =>
      obtain ⟨k, q, S, rfl, hk, rfl, HS, rfl⟩ := hrel
      by_cases hlt : k < xs.length
      · obtain ⟨st1, ⟨st2, st3⟩, st4, st5⟩ := ip_step HP.out HY.out k (by omega)
        rw [HS.out] at st1 st2 st3
        have r2 : w1.cell? ⟨b2, o2 + k, none⟩ = some (.int .i64 (at_ ys k)) := HC2.out k (by have := HL.out; omega)
        have r3 : w1.cell? ⟨b3, o3 + k, none⟩ = some (.int .i64 (at_ (wts xs) k)) := HC3.out k (by rw [hwl]; omega)
        obtain ⟨A, hA⟩ : ∃ A, at_ (wts xs) k = A := ⟨_, rfl⟩
        obtain ⟨B, hB'⟩ : ∃ B, at_ ys k = B := ⟨_, rfl⟩
        rw [hA] at st1 st4 st5 r3
        rw [hB'] at st1 st4 st5 r2
        have HT := hide st1
        have hyl : (k : Int) < (ys.length : Int) := by have := HL.out; omega
        have hwl2 : (k : Int) < ((wts xs).length : Int) := by omega
        clear st1 hA hB'
        go_wp2
        go_quiet (fail)
        go_wp2
        go_roundw
        case rel => exact ⟨k + 1, _, S + A * B, by go_num, by omega, rfl, HT, (by first | rfl | exact World.drewN_drewN _ _ _)⟩
        case measure => simp [intOf]; omega
      · have hkl : k = xs.length := by omega
        subst hkl
        have hwl2 : ¬ ((xs.length : Int) < ((wts xs).length : Int)) := by omega
        go_wp2
        go_ret2
        exact ⟨ret_ii (by rw [e2.out]; exact HS.out.symm) HZ.out.symm, below_drewN hB _⟩
  · have e2 : Hid (areaV xs ys = 0) := by show _ = _; unfold areaV; rw [if_neg h0]
    have d0 : (ordE xs ys != 0) = true := by simpa using h0
    clear h0
    go_enter Try.func42, Try.ntmps42
    go_wp2_with (go_at_call 75; refine HO.out.mono ?_; rintro e w' ⟨rfl, k, rfl⟩)
    go_ret2
    exact ⟨ret_ii e2.out.symm rfl, below_drewN (Below.refl _ _) _⟩
end Go.Proofs.Ytijakfkgcloplaa
