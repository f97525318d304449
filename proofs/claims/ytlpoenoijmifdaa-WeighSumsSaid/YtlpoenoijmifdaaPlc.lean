import Derived.Test.YtlpoenoijmifdaaMod
import Derived.Test.YtlpoenoijmifdaaPsh
import Derived.Test.YtlpoenoijmifdaaExa
set_option linter.unusedVariables false
set_option linter.unusedSimpArgs false
namespace Go.Proofs.Ytlpoenoijmifdaa
open Go.RowKit

/-- Positions from 0 to 49 on, with steps of at most M. -/
structure Stp (M : Int) (xs : List Int) : Prop where
  one : 1 ≤ xs.length
  lo : 0 ≤ at_ xs 0
  hi : at_ xs 0 ≤ 49
  gap : ∀ i, i + 1 < xs.length → 1 ≤ at_ xs (i + 1) - at_ xs i ∧ at_ xs (i + 1) - at_ xs i ≤ M

theorem Stp.bd {M : Int} {xs : List Int} (h : Stp M xs) : ∀ i : Nat, i < xs.length → 0 ≤ at_ xs i ∧ at_ xs i ≤ 49 + M * i := by
  intro i
  induction i with
  | zero => intro _; have := h.lo; have := h.hi; simp; omega
  | succ i ih =>
    intro hi
    have := ih (by omega)
    have := h.gap i hi
    rw [Int.natCast_add, Int.mul_add]; omega

theorem at_snoc (xs : List Int) (x : Int) (i : Nat) : at_ (xs ++ [x]) i = if i = xs.length then x else at_ xs i := by
  unfold at_
  by_cases h : i < xs.length
  · rw [List.getElem?_append_left h, if_neg (by omega)]
  · rw [List.getElem?_append_right (by omega)]
    by_cases h2 : i = xs.length
    · subst h2; simp
    · rw [if_neg h2, List.getElem?_eq_none (show xs.length ≤ i by omega), List.getElem?_eq_none (show [x].length ≤ i - xs.length by simp only [List.length_cons, List.length_nil]; omega)]

theorem Stp.snoc {M : Int} {xs : List Int} (h : Stp M xs) {j : Nat} (hj : xs.length = j + 1) {p : Int} (h1 : 1 ≤ p) (h2 : p ≤ M) : Stp M (xs ++ [at_ xs j + p]) := by
  refine ⟨by simp, ?_, ?_, fun i hi => ?_⟩
  · rw [at_snoc, if_neg (by omega)]; exact h.lo
  · rw [at_snoc, if_neg (by omega)]; exact h.hi
  · simp only [List.length_append, List.length_cons, List.length_nil] at hi
    rw [at_snoc, at_snoc, if_neg (show ¬ i = xs.length by omega)]
    by_cases h3 : i + 1 = xs.length
    · rw [if_pos h3]
      obtain rfl : i = j := by omega
      omega
    · rw [if_neg h3]; exact h.gap i (by omega)

theorem Stp.single {M x : Int} (h1 : 0 ≤ x) (h2 : x ≤ 49) : Stp M [x] := ⟨by simp, by simpa [at_] using h1, by simpa [at_] using h2, fun i hi => by simp at hi⟩

theorem Stp.fb {M : Int} {xs : List Int} (h : Stp M xs) (h9 : xs.length ≤ 9) (hM : 0 ≤ M) (hM2 : M ≤ 100000) : ∀ x ∈ xs, FB x := by
  intro x hx
  obtain ⟨i, hi, rfl⟩ := List.mem_iff_getElem.1 hx
  have := h.bd i hi
  rw [at_get hi] at this
  have h2 : M * (i : Int) ≤ M * 9 := Int.mul_le_mul_of_nonneg_left (by omega) hM
  exact ⟨by omega, by omega⟩

/-- What a call has drawn up: a fresh slice of positions. -/
def Drawn (B : Nat) (most : Int) (many : Nat) (e : Ending) (w w' : World) : Prop :=
  ∃ v xs, e = .returned v ∧ Own B w' v xs ∧ Stp (3 * most) xs ∧ 2 ≤ xs.length ∧ xs.length ≤ many ∧ Below w.heap.size w w'

set_option maxRecDepth 100000 in
set_option maxHeartbeats 4000000 in
theorem places_mk (a : Option Addr) (n cap : Nat) (ls : List Int) (many : Nat) (most : Int) (w : World) (h : IsL w (.slice a n cap) ls) (hm : ls.length ≤ 1000000000000000000)
    (_hm1 : 2 ≤ many) (_hm2 : many ≤ 9) (_hs1 : 1 ≤ most) (_hs2 : most ≤ 3000) :
    Calls Try.prog 51 #[.slice a n cap, .int .i64 many, .int .i64 most] w fun e w' => Drawn w.heap.size most many e w w' := by
  have A := fun (i : Int) (hi : FB i) (W : World) (hb : Below w.heap.size w W) => at_w a n cap ls i W (h.below hb) hi hm
  have HFB : Hid (∀ x ∈ ls, FB x) := by obtain ⟨_, _, _, _, _, h3, _⟩ := h; exact h3
  obtain ⟨a', cap', hv, hl1, hl2, h3, h4⟩ := h
  cases hv
  clear h3
  obtain ⟨x0, hx0⟩ : ∃ x, atM ls 0 % 50 = x := ⟨_, rfl⟩
  obtain ⟨s0, hs0⟩ : ∃ x, atM ls 1 % most = x := ⟨_, rfl⟩
  have b1 : 0 ≤ x0 ∧ x0 ≤ 49 := by omega
  have b2 := Int.emod_nonneg (atM ls 1) (show most ≠ 0 by omega)
  have b3 := Int.emod_lt_of_pos (atM ls 1) (show 0 < most by omega)
  rw [hs0] at b2 b3
  obtain ⟨b1a, b1b⟩ := b1
  have M1 := fun W => mod_w (atM ls 0) 50 W (atM_FB HFB.out 0) (by omega) (by omega)
  have M2 := fun W => mod_w (atM ls 1) most W (atM_FB HFB.out 1) (by omega) (by omega)
  rw [hx0] at M1
  rw [hs0] at M2
  have A0 := A 0 ⟨by decide, by decide⟩
  have A1 := A 1 ⟨by decide, by decide⟩
  obtain ⟨y0, hy0⟩ : ∃ x, atM ls 0 = x := ⟨_, rfl⟩
  obtain ⟨y1, hy1⟩ : ∃ x, atM ls 1 = x := ⟨_, rfl⟩
  rw [hy0] at M1 A0
  rw [hy1] at M2 A1
  have HM1 := hide M1; have HM2 := hide M2; have HA0 := hide A0; have HA1 := hide A1
  clear M1 M2 A0 A1 A hx0 hs0 hy0 hy1
  go_enter Try.func51, Try.ntmps51
  go_wp2_with fail
  refine (HA0.out _ (Below.refl _ _)).mono ?_
  rintro e w' ⟨rfl, rfl⟩
  go_wp2_with fail
  refine (HM1.out _).mono ?_
  rintro e w' ⟨rfl, rfl⟩
  go_wp2_with fail
  refine (HA1.out _ ((Below.refl _ _).alloc (Nat.le_refl _) _)).mono ?_
  rintro e w' ⟨rfl, rfl⟩
  go_wp2_with fail
  refine (HM2.out _).mono ?_
  rintro e w' ⟨rfl, rfl⟩
  go_wp2_with fail
  clear HA0 HA1 HM1 HM2
  have hsz := Nat.le_refl w.heap.size
  have hmm : (2 : Int) ≤ many ∧ (many : Int) ≤ 9 := by omega
  obtain ⟨hmm1, hmm2⟩ := hmm
  have KM := fun (n m : Int) (W : World) (h1 : FB n) (h2 : 1 ≤ m) (h3 : m ≤ 1000000) => mod_w n m W h1 h2 (by omega)
  have HKM := hide KM; clear KM
  have HC := hide h4; clear h4
  go_loopw [7, 8, 9] (fun v st i wr => ∃ (V : Value) (j : Nat) (s : Int) (xs : List Int), V = v ∧ st = .int .i64 s ∧ i = .int .i64 ((j : Int) + 1) ∧ Hid (xs.length = j + 1) ∧ j + 1 ≤ many ∧ 1 ≤ s ∧ s ≤ most ∧ Hid (Own w.heap.size wr V xs) ∧ Hid (Stp (3 * most) xs) ∧ Below w.heap.size w wr) (fun _ _ i _ => many - (intOf i).toNat)
  case atStart => exact ⟨_, 0, _, [x0], rfl, rfl, rfl, hide rfl, by omega, by omega, by omega, hide (Own.one w x0 (Nat.le_refl _)), hide (Stp.single b1a b1b), (Below.refl _ _).alloc (Nat.le_refl _) _⟩
  case round =>
    obtain ⟨v, j, s, xs, rfl, rfl, rfl, hlenI, hjm, hs1, hs2, hownI, hst, hbel⟩ := hrel
    obtain ⟨g, gc, rfl, hgB, hgl, hcs⟩ := hownI.out.form hlenI.out (by omega)
    have hcell := hcs j (by omega)
    have hcell0 := hcs 0 (by omega)
    clear hcs
    have hxb := hst.out.bd j (by rw [hlenI.out]; omega)
    obtain ⟨hxb1, hxb2⟩ := hxb
    have hxb3 : at_ xs j ≤ 1000000 := by
      have : 3 * most * (j : Int) ≤ 3 * most * 9 := Int.mul_le_mul_of_nonneg_left (by omega) (by omega)
      omega
    have hsz2 := hbel.size
    have hlen9 : xs.length ≤ 1000000 := by rw [hlenI.out]; omega
    clear hxb2
    obtain ⟨z, hz⟩ : ∃ z, at_ xs 0 = z := ⟨_, rfl⟩
    rw [hz] at hcell0
    have hz0 : j = 0 → at_ xs j = z := fun e => by subst e; exact hz
    have HZ0 := hide hz0
    clear hz hz0
    obtain ⟨y, hy⟩ : ∃ y, at_ xs j = y := ⟨_, rfl⟩
    rw [hy] at hcell hxb1 hxb3
    have HY := hide hy
    clear hy
    by_cases hlt : j + 1 < ls.length
    · have hl3 : (j : Int) + 1 < ls.length := by omega
      by_cases hmy : (j : Int) + 1 < many
      · have hc := HC.out (by intro h; rw [h] at hlt; simp at hlt)
        obtain ⟨b, off, rfl, hbl, hcc⟩ := hc
        have c1 : wr.cell? ⟨b, off + (j + 1), none⟩ = some (.int .i64 (at_ ls (j + 1))) := (hbel.cell (p := ⟨b, off + (j + 1), none⟩) hbl).trans (hcc (j + 1) (by omega))
        have hfx := at_FB HFB.out (j + 1)
        obtain ⟨x, hx⟩ : ∃ x, at_ ls (j + 1) = x := ⟨_, rfl⟩
        rw [hx] at c1 hfx
        clear hcc hx
        obtain ⟨k, hk⟩ : ∃ k, x % 5 = k := ⟨_, rfl⟩
        have hk0 : 0 ≤ k := by omega
        have hk5 : k ≤ 4 := by omega
        have M5 := fun W => HKM.out x 5 W hfx (by omega) (by omega)
        rw [hk] at M5
        have HM5 := hide M5
        clear M5 hk
        obtain ⟨r, hr⟩ : ∃ r, k % 3 = r := ⟨_, rfl⟩
        have hr0 : 0 ≤ r := by omega
        have hr3 : r ≤ 2 := by omega
        by_cases hk2 : 2 < k
        · have hq := tdiv_bd (n := x) (d := 5) (by omega)
          have hfq : FB (x.tdiv 5) := by
            obtain ⟨f1, f2⟩ := hfx; obtain ⟨q1, q2⟩ := hq
            rcases Int.le_total 0 x with h | h
            · have := q1 h; exact ⟨by omega, by omega⟩
            · have := q2 h; exact ⟨by omega, by omega⟩
          have MQ := fun W => HKM.out (x.tdiv 5) most W hfq (by omega) (by omega)
          have t1 := Int.emod_nonneg (x.tdiv 5) (show most ≠ 0 by omega)
          have t2 := Int.emod_lt_of_pos (x.tdiv 5) (show 0 < most by omega)
          obtain ⟨t, ht⟩ : ∃ t, x.tdiv 5 % most = t := ⟨_, rfl⟩
          rw [ht] at MQ t1 t2
          have HMQ := hide MQ
          clear MQ ht hq
          obtain ⟨hfq1, hfq2⟩ := hfq
          obtain ⟨p, hp⟩ : ∃ p, (1 + t) * (1 + r) = p := ⟨_, rfl⟩
          have hp1 : 1 ≤ p := by rw [← hp]; have := Int.mul_pos (show 0 < 1 + t by omega) (show 0 < 1 + r by omega); omega
          have hp2 : p ≤ 3 * most := by
            rw [← hp]
            have h1 : (1 + t) * (1 + r) ≤ (1 + t) * 3 := Int.mul_le_mul_of_nonneg_left (by omega) (by omega)
            omega
          have HN := hide (hst.out.snoc hlenI.out hp1 hp2)
          have hp3 : y + p ≤ 2000000 := by omega
          have hp4 : 0 ≤ y + p := by omega
          go_wp2_with fail
          refine (HM5.out _).mono ?_
          rintro e w' ⟨rfl, rfl⟩
          go_wp2_with fail
          refine (HMQ.out _).mono ?_
          rintro e w' ⟨rfl, rfl⟩
          go_wp2_with (at_builtin; refine push_w rfl (.tmp 47) (.tmp 60) rfl w.heap.size wr _ xs (y + p) hownI.out rfl rfl hlen9 hsz2 ?_; intro v' w1 hown' hgrow _)
          go_roundw
          case rel => exact ⟨_, j + 1, 1 + t, xs ++ [y + p], rfl, rfl, by go_num, hide (by rw [List.length_append, hlenI.out]; rfl), by omega, by omega, by omega, hide hown', hide (by rw [← HY.out]; exact HN.out), hbel.trans (grow_below hownI.out hsz2 hgrow)⟩
          case measure => simp [intOf]; omega
        · obtain ⟨p, hp⟩ : ∃ p, s * (1 + r) = p := ⟨_, rfl⟩
          have hp1 : 1 ≤ p := by rw [← hp]; have := Int.mul_pos (show 0 < s by omega) (show 0 < 1 + r by omega); omega
          have hp2 : p ≤ 3 * most := by
            rw [← hp]
            have h1 : s * (1 + r) ≤ s * 3 := Int.mul_le_mul_of_nonneg_left (by omega) (by omega)
            omega
          have HN := hide (hst.out.snoc hlenI.out hp1 hp2)
          have hp3 : y + p ≤ 2000000 := by omega
          have hp4 : 0 ≤ y + p := by omega
          go_wp2_with fail
          refine (HM5.out _).mono ?_
          rintro e w' ⟨rfl, rfl⟩
          go_wp2_with (at_builtin; refine push_w rfl (.tmp 47) (.tmp 60) rfl w.heap.size wr _ xs (y + p) hownI.out rfl rfl hlen9 hsz2 ?_; intro v' w1 hown' hgrow _)
          go_roundw
          case rel => exact ⟨_, j + 1, s, xs ++ [y + p], rfl, rfl, by go_num, hide (by rw [List.length_append, hlenI.out]; rfl), by omega, by omega, by omega, hide hown', hide (by rw [← HY.out]; exact HN.out), hbel.trans (grow_below hownI.out hsz2 hgrow)⟩
          case measure => simp [intOf]; omega
      · have hl5 : ¬ ((j : Int) + 1 < many) := hmy
        have hl6 : (2 : Int) ≤ (j : Int) + 1 := by omega
        go_wp2_with fail
        go_ret
        exact ⟨_, xs, rfl, hownI.out, hst.out, by rw [hlenI.out]; omega, by rw [hlenI.out]; omega, hbel⟩
    · have hl3 : ¬ ((j : Int) + 1 < ls.length) := by omega
      by_cases hj0 : j = 0
      · subst hj0
        have hzy : y = z := by rw [← HY.out]; exact HZ0.out rfl
        subst hzy
        have HN := hide (hst.out.snoc hlenI.out (p := s) (by omega) (by omega))
        have hp3 : y + s ≤ 2000000 := by omega
        have hp4 : 0 ≤ y + s := by omega
        go_wp2_with (at_builtin; refine push_w rfl (.tmp 65) (.tmp 71) rfl w.heap.size wr _ xs (y + s) hownI.out rfl rfl hlen9 hsz2 ?_; intro v' w1 hown' hgrow _)
        go_ret
        exact ⟨_, _, rfl, hown', by rw [← HY.out]; exact HN.out, by rw [List.length_append, hlenI.out]; simp, by rw [List.length_append, hlenI.out]; simp; omega, hbel.trans (grow_below hownI.out hsz2 hgrow)⟩
      · have hl6 : (2 : Int) ≤ (j : Int) + 1 := by omega
        go_wp2_with fail
        go_ret
        exact ⟨_, xs, rfl, hownI.out, hst.out, by rw [hlenI.out]; omega, by rw [hlenI.out]; omega, hbel⟩
end Go.Proofs.Ytlpoenoijmifdaa
