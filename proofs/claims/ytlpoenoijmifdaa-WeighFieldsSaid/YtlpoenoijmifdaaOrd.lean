import Derived.Test.YtlpoenoijmifdaaItr
set_option linter.unusedVariables false
set_option linter.unusedSimpArgs false
namespace Go.Proofs.Ytlpoenoijmifdaa
open Go.RowKit Go.Shelf

theorem IsL.of_own {base e : Nat} {w : World} {v : Value} {n : Nat} {vs : List Int} (h : w.ownsRow base e 1 v n (vs.map (Value.int .i64))) (hfb : ∀ x ∈ vs, FB x) : IsL w v vs := by
  have h0 := h
  obtain ⟨h1, h2⟩ := h
  have hn : n = vs.length := by simpa using h1.symm
  subst hn
  rcases h2 with ⟨rfl, hn⟩ | ⟨g, cap, cur, rfl, hb, hh, hc, hm, hsz, ht⟩
  · exact ⟨none, 0, by rw [hn], by omega, Nat.zero_le _, hfb, fun hne => absurd (List.length_eq_zero_iff.1 hn) hne⟩
  · refine ⟨some ⟨g, 0, none⟩, cap, rfl, hc, hm, hfb, fun _ => ⟨g, 0, rfl, (h0.lt g rfl).2, fun i hi => ?_⟩⟩
    rw [Nat.zero_add, h0.cellAt _ (by omega)]; simp [hi]

def levL (xs ys : List Int) (about : Int) : List Int := (List.range xs.length).map (lev xs ys about)
theorem levL_len (xs ys : List Int) (about : Int) : (levL xs ys about).length = xs.length := by simp [levL]
theorem levL_at (xs ys : List Int) (about : Int) (i : Nat) (h : i < xs.length) : at_ (levL xs ys about) i = lev xs ys about i := by simp [levL, at_, h]
theorem lev_lim {xs ys : List Int} {about : Int} (hp : Pos xs) (hy : Lim 20000 ys) (h0 : 0 ≤ about) (h1 : about ≤ 100000) (i : Nat) : -2000000000 ≤ lev xs ys about i ∧ lev xs ys about i ≤ 2000000000 := by
  have bx := pos_bd hp i
  have := mul_lim (a := at_ ys i) (b := at_ xs i - about) (K := 20000) (V := 100000) (hy i) (by omega)
  unfold lev; omega
theorem levL_lim {xs ys : List Int} {about : Int} (hp : Pos xs) (hy : Lim 20000 ys) (h0 : 0 ≤ about) (h1 : about ≤ 100000) : Lim 2000000000 (levL xs ys about) := by
  intro i
  by_cases h : i < xs.length
  · rw [levL_at _ _ _ _ h]; exact lev_lim hp hy h0 h1 i
  · unfold at_; rw [List.getElem?_eq_none (by rw [levL_len]; omega)]; simp

theorem levers_w (a1 a2 : Option Addr) (n1 n2 c1 c2 : Nat) (xs ys : List Int) (about : Int) (w : World) (i1 : IsL w (.slice a1 n1 c1) xs) (i2 : IsL w (.slice a2 n2 c2) ys) (hp : Pos xs) (hl : xs.length = ys.length) (hy : Lim 20000 ys) (ha0 : 0 ≤ about) (ha1 : about ≤ 100000) :
    Calls Try.prog 76 #[.slice a1 n1 c1, .slice a2 n2 c2, .int .i64 about] w fun e w' => ∃ v, e = .returned v ∧ IsL w' v (levL xs ys about) ∧ Below w.heap.size w w' := by
  refine (callsIn_wide.1 (levers_in Fence.wide 3 trivial trivial trivial rfl (Nat.le_refl _) a1 a2 n1 n2 c1 c2 xs ys about w i1 i2 hp hl hy ha0 ha1)).mono ?_
  rintro e w' ⟨v, he, hr, hb⟩
  refine ⟨v, he, IsL.of_own (n := xs.length) (by rw [levL, List.map_map]; exact hr) (lim_FB (levL_lim hp hy ha0 ha1) (by omega)), hb⟩

/-- The error of positions and ordinates. -/
def ordE (xs ys : List Int) : Int := if rise 9 100000 xs = true then (if ys.length = xs.length ∧ ys.all (inB (-20000) 20000) = true then 0 else 1) else 12

theorem ord_zero {xs ys : List Int} (h : ordE xs ys = 0) : Pos xs ∧ xs.length = ys.length ∧ Lim 20000 ys := by
  unfold ordE at h
  split at h
  · rename_i h1
    split at h
    · rename_i h2
      refine ⟨Pos.of h1, h2.1.symm, fun i => ?_⟩
      by_cases hi : i < ys.length
      · have := (List.all_eq_true.1 h2.2) _ (List.getElem_mem hi)
        rw [at_get hi]; simpa [inB] using this
      · unfold at_; rw [List.getElem?_eq_none (by omega)]; simp
    · simp at h
  · simp at h
theorem ordE_or (xs ys : List Int) : ordE xs ys = 0 ∨ ordE xs ys = 1 ∨ ordE xs ys = 12 := by unfold ordE; (repeat' split) <;> simp

theorem within_q (a : Option Addr) (n cap : Nat) (xs : List Int) (lo hi : Int) (w : World) (h : IsL w (.slice a n cap) xs) :
    Calls Try.prog 71 #[.slice a n cap, .int .i64 lo, .int .i64 hi] w fun e w' => e = .returned (.bool (xs.all (inB lo hi))) ∧ w' = w := (within_w a n cap xs lo hi w h).mono fun _ _ ⟨x, y⟩ => ⟨x, y.symm⟩

set_option maxHeartbeats 1000000 in
theorem ords_w (a1 a2 : Option Addr) (n1 n2 c1 c2 : Nat) (xs ys : List Int) (w : World) (i1 : IsL w (.slice a1 n1 c1) xs) (i2 : IsL w (.slice a2 n2 c2) ys) :
    Calls Try.prog 73 #[.slice a1 n1 c1, .slice a2 n2 c2] w fun e w' => e = .returned (.int .i64 (ordE xs ys)) ∧ Drew w w' := by
  have hn1 : n1 = xs.length := by obtain ⟨_, _, hv, _⟩ := i1; cases hv; rfl
  have hn2 : n2 = ys.length := by obtain ⟨_, _, hv, _⟩ := i2; cases hv; rfl
  subst hn1; subst hn2
  have hpl := places_w a1 xs.length c1 xs w i1
  have hwi := fun k : Nat => within_q a2 ys.length c2 ys (-20000) 20000 (w.drewN k) (i2.drewN k)
  have HW := hide hwi; clear hwi
  cases hr : rise 9 100000 xs with
  | false =>
    have e1 : pl xs = 12 := by unfold pl; rw [hr]; rfl
    have e2 : Hid (ordE xs ys = 12) := by show _ = _; unfold ordE; rw [hr]; rfl
    rw [e1] at hpl
    have HP := hide hpl; clear hpl hr e1
    go_enter Try.func73, Try.ntmps73
    go_wp2_with (go_at_call 39; refine HP.out.mono ?_; rintro e w' ⟨rfl, k, rfl⟩)
    go_ret
    exact ⟨ret_int e2.out.symm, _, rfl⟩
  | true =>
    have e1 : pl xs = 0 := by unfold pl; rw [hr]; rfl
    rw [e1] at hpl
    have HP := hide hpl; clear hpl e1
    by_cases hl : ys.length = xs.length
    · have d1 : ((ys.length : Int) != (xs.length : Int)) = false := by simp; omega
      cases ha : ys.all (inB (-20000) 20000) with
      | true =>
        have e2 : Hid (ordE xs ys = 0) := by show _ = _; unfold ordE; rw [hr, if_pos rfl, if_pos ⟨hl, ha⟩]
        clear hr hl
        go_enter Try.func73, Try.ntmps73
        go_wp2_with (first | (go_at_call 39; refine HP.out.mono ?_; rintro e w' ⟨rfl, k, rfl⟩) | (go_at_call 71; refine (HW.out _).mono ?_; rintro e w' ⟨rfl, rfl⟩))
        go_ret
        exact ⟨ret_int e2.out.symm, _, rfl⟩
      | false =>
        have e2 : Hid (ordE xs ys = 1) := by show _ = _; unfold ordE; rw [hr, if_pos rfl, if_neg (by intro h; rw [ha] at h; simp at h)]
        clear hr hl
        go_enter Try.func73, Try.ntmps73
        go_wp2_with (first | (go_at_call 39; refine HP.out.mono ?_; rintro e w' ⟨rfl, k, rfl⟩) | (go_at_call 71; refine (HW.out _).mono ?_; rintro e w' ⟨rfl, rfl⟩))
        go_ret
        exact ⟨ret_int e2.out.symm, _, rfl⟩
    · have d1 : ((ys.length : Int) != (xs.length : Int)) = true := by simp; omega
      have e2 : Hid (ordE xs ys = 1) := by show _ = _; unfold ordE; rw [hr, if_pos rfl, if_neg (by intro h; exact hl h.1)]
      clear hr hl
      go_enter Try.func73, Try.ntmps73
      go_wp2_with (go_at_call 39; refine HP.out.mono ?_; rintro e w' ⟨rfl, k, rfl⟩)
      go_ret
      exact ⟨ret_int e2.out.symm, _, rfl⟩
end Go.Proofs.Ytlpoenoijmifdaa
