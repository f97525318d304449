import Derived.Test.YtlpoenoijmifdaaProg
import Derived.WalkKit
import Derived.WalkSpells
import Derived.WalkLawsBesides
import Derived.IntWalk
import Derived.Deep.QuietTactic
import Derived.BigQuiet
set_option linter.unusedVariables false
set_option linter.unusedSimpArgs false
namespace Go.Proofs.Ytlpoenoijmifdaa
open Go.RowKit

theorem ret_int {k : IntKind} {a b : Int} (h : a = b) : Ending.returned (.int k a) = .returned (.int k b) := by rw [h]

theorem size_neg (n : Int) (h1 : -9223372036854775808 ≤ n) (h : n < 0) : IntKind.u64.wrap (-IntKind.u64.wrap n) = (n.natAbs : Int) := by
  simp only [IntKind.wrap, IntKind.signed, IntKind.bits]
  simp
  omega

set_option maxHeartbeats 400000 in
theorem size_w (n : Int) (w : World) (_h1 : -9223372036854775808 ≤ n) (_h2 : n ≤ 9223372036854775807) :
    Calls Try.prog 59 #[.int .i64 n] w fun e w' => e = .returned (.int .u64 n.natAbs) ∧ w = w' := by
  by_cases h : n < 0
  · go_enter Try.func59, Try.ntmps59
    go_wp2
    go_ret
    exact ⟨ret_int (size_neg n _h1 h), rfl⟩
  · have h0 : 0 ≤ n := by omega
    go_enter Try.func59, Try.ntmps59
    go_wp2
    go_ret
    exact ⟨ret_int (by omega), rfl⟩

set_option maxHeartbeats 400000 in
theorem rsize_w (n : Int) (w : World) (_h1 : -9223372036854775808 ≤ n) (_h2 : n ≤ 9223372036854775807) :
    Calls Try.prog 61 #[.int .i64 n] w fun e w' => e = .returned (.int .u64 n.natAbs) ∧ w = w' := by
  by_cases h : n < 0
  · go_enter Try.func61, Try.ntmps61
    go_wp2
    go_ret
    exact ⟨ret_int (by omega), rfl⟩
  · have h0 : 0 ≤ n := by omega
    go_enter Try.func61, Try.ntmps61
    go_wp2
    go_ret
    exact ⟨ret_int (by omega), rfl⟩

theorem hide {p : Prop} (h : p) : Hid p := h

def Drew (w w' : World) : Prop := ∃ n, w' = w.drewN n

set_option maxHeartbeats 400000 in
theorem divisor_w (a b : Nat) (w : World) (_h1 : a ≤ 18446744073709551615) (_h2 : b ≤ 18446744073709551615) :
    Calls Try.prog 60 #[.int .u64 a, .int .u64 b] w fun e w' => e = .returned (.int .u64 (Nat.gcd a b)) ∧ Drew w w' := by
  go_enter Try.func60, Try.ntmps60
  go_wp2
  go_loopw [0, 1] (fun x y wr => ∃ c d n : Nat, x = .int .u64 c ∧ y = .int .u64 d ∧ Hid (Nat.gcd c d = Nat.gcd a b) ∧ c ≤ 18446744073709551615 ∧ d ≤ 18446744073709551615 ∧ wr = w.drewN n) (fun _ y _ => (intOf y).toNat)
  case atStart => exact ⟨a, b, 0, rfl, rfl, rfl, _h1, _h2, rfl⟩
  case round =>
    obtain ⟨c, d, n, rfl, rfl, hg, hc, hd, rfl⟩ := hrel
    by_cases h : d = 0
    · subst h
      go_wp2
      go_ret
      exact ⟨ret_int (by have := hg.out; simp at this; omega), ⟨n, rfl⟩⟩
    · have hne : ((d : Int) == 0) = false := by simp; omega
      have hne2 : ((d : Int) != 0) = true := by simp; omega
      go_wp2
      go_quiet (fail)
      go_wp2
      go_roundw
      case rel => exact ⟨d, c % d, _, rfl, by rw [Int.natCast_emod], hide (by rw [← hg.out, Nat.gcd_comm d, ← Nat.gcd_rec, Nat.gcd_comm]), hd, by have := Nat.mod_lt c (Nat.pos_of_ne_zero h); omega, World.drewN_drewN _ _ _⟩
      case measure => have := Nat.mod_lt c (Nat.pos_of_ne_zero h); simp [intOf]; omega
set_option maxHeartbeats 400000 in
theorem gcd_w (a b : Nat) (w : World) (_h1 : a ≤ 18446744073709551615) (_h2 : b ≤ 18446744073709551615) :
    Calls Try.prog 62 #[.int .u64 a, .int .u64 b] w fun e w' => e = .returned (.int .u64 (Nat.gcd a b)) ∧ Drew w w' := by
  go_enter Try.func62, Try.ntmps62
  go_wp2
  go_loopw [0, 1] (fun x y wr => ∃ c d n : Nat, x = .int .u64 c ∧ y = .int .u64 d ∧ Hid (Nat.gcd c d = Nat.gcd a b) ∧ c ≤ 18446744073709551615 ∧ d ≤ 18446744073709551615 ∧ wr = w.drewN n) (fun _ y _ => (intOf y).toNat)
  case atStart => exact ⟨a, b, 0, rfl, rfl, rfl, _h1, _h2, rfl⟩
  case round =>
    obtain ⟨c, d, n, rfl, rfl, hg, hc, hd, rfl⟩ := hrel
    by_cases h : d = 0
    · subst h
      go_wp2
      go_ret
      exact ⟨ret_int (by have := hg.out; simp at this; omega), ⟨n, rfl⟩⟩
    · have hne : (0 : Int) < (d : Int) := by omega
      have hne2 : ((d : Int) == 0) = false := by simp; omega
      go_wp2
      go_quiet (fail)
      go_wp2
      go_roundw
      case rel => exact ⟨d, c % d, _, rfl, by rw [Int.natCast_emod], hide (by rw [← hg.out, Nat.gcd_comm d, ← Nat.gcd_rec, Nat.gcd_comm]), hd, by have := Nat.mod_lt c (Nat.pos_of_ne_zero h); omega, World.drewN_drewN _ _ _⟩
      case measure => have := Nat.mod_lt c (Nat.pos_of_ne_zero h); simp [intOf]; omega

/-- The fraction n / d in lowest terms, d above 0 or below; the error and the zero fraction otherwise. -/
def mk (n d : Int) : Int × Int × Int :=
  if d = 0 then (0, 0, 11)
  else if 1000000000 < n.natAbs / Nat.gcd n.natAbs d.natAbs ∨ 1000000000 < d.natAbs / Nat.gcd n.natAbs d.natAbs then (0, 0, 4)
  else if n < 0 ∧ 0 < d ∨ 0 ≤ n ∧ d < 0 then (-((n.natAbs / Nat.gcd n.natAbs d.natAbs : Nat) : Int), (d.natAbs / Nat.gcd n.natAbs d.natAbs : Nat), 0)
  else ((n.natAbs / Nat.gcd n.natAbs d.natAbs : Nat), (d.natAbs / Nat.gcd n.natAbs d.natAbs : Nat), 0)

def frac (x : Int × Int × Int) : Value := .tuple #[.agg #[.int .i64 x.1, .int .i64 x.2.1], .int .i64 x.2.2]

theorem mk_big {n d : Int} {a b g p q : Nat} (h0 : ¬ d = 0) (ha : n.natAbs = a) (hb : d.natAbs = b) (hg : Nat.gcd a b = g) (hp : a / g = p) (hq : b / g = q)
    (h : (1000000000 : Int) < p ∨ (1000000000 : Int) < q) : mk n d = (0, 0, 4) := by
  unfold mk
  rw [if_neg h0, ha, hb, hg, hp, hq, if_pos (by omega)]

theorem mk_neg {n d : Int} {a b g p q : Nat} (h0 : ¬ d = 0) (ha : n.natAbs = a) (hb : d.natAbs = b) (hg : Nat.gcd a b = g) (hp : a / g = p) (hq : b / g = q)
    (h : (p : Int) ≤ 1000000000 ∧ (q : Int) ≤ 1000000000) (hs : (!decide (n < 0) == decide (d < 0)) = true) : mk n d = (-(p : Int), (q : Int), 0) := by
  unfold mk
  rw [if_neg h0, ha, hb, hg, hp, hq, if_neg (by omega), if_pos]
  simp at hs; omega

theorem mk_pos {n d : Int} {a b g p q : Nat} (h0 : ¬ d = 0) (ha : n.natAbs = a) (hb : d.natAbs = b) (hg : Nat.gcd a b = g) (hp : a / g = p) (hq : b / g = q)
    (h : (p : Int) ≤ 1000000000 ∧ (q : Int) ≤ 1000000000) (hs : (!decide (n < 0) == decide (d < 0)) = false) : mk n d = ((p : Int), (q : Int), 0) := by
  unfold mk
  rw [if_neg h0, ha, hb, hg, hp, hq, if_neg (by omega), if_neg]
  simp at hs; omega

set_option maxHeartbeats 400000 in
theorem make_w (n d : Int) (w : World) (_h1 : -9223372036854775808 ≤ n) (_h2 : n ≤ 9223372036854775807) (_h3 : -9223372036854775808 ≤ d) (_h4 : d ≤ 9223372036854775807) :
    Calls Try.prog 12 #[.int .i64 n, .int .i64 d] w fun e w' => e = .returned (frac (mk n d)) ∧ Below w.heap.size w w' := by
  by_cases h0 : d = 0
  · subst h0
    go_enter Try.func12, Try.ntmps12
    go_wp2
    exact bodyPost_ret (v := .tuple #[.agg #[.int .i64 0, .int .i64 0], .int .i64 11]) (by simp [results, Try.results12, go_sem]) rfl ⟨by simp [frac, mk], (Below.refl _ _).alloc (Nat.le_refl _) _⟩
  · have h0' : (d == 0) = false := by simpa using h0
    go_enter Try.func12, Try.ntmps12
    go_wp2_with (go_at_call 59; refine (size_w _ _ (by omega) (by omega)).mono ?_; rintro e w' ⟨rfl, rfl⟩)
    refine (divisor_w _ _ _ (by omega) (by omega)).mono ?_
    rintro e w' ⟨rfl, k, rfl⟩
    have hg0 : (0 : Int) < (Nat.gcd n.natAbs d.natAbs : Nat) := by
      have := Nat.gcd_pos_of_pos_right n.natAbs (show 0 < d.natAbs by omega); omega
    obtain ⟨a, ha⟩ : ∃ a, n.natAbs = a := ⟨_, rfl⟩
    obtain ⟨b, hb⟩ : ∃ b, d.natAbs = b := ⟨_, rfl⟩
    obtain ⟨g, hg⟩ : ∃ g, Nat.gcd a b = g := ⟨_, rfl⟩
    rw [ha, hb, hg] at hg0
    rw [ha, hb, hg]
    have HA := hide ha; have HB := hide hb; have HG := hide hg; clear ha hb hg
    have hg1 : ((g : Int) == 0) = false := by simp; omega
    obtain ⟨p, hp⟩ : ∃ p, a / g = p := ⟨_, rfl⟩
    obtain ⟨q, hq⟩ : ∃ q, b / g = q := ⟨_, rfl⟩
    have hpa : p ≤ a := hp ▸ Nat.div_le_self _ _
    have hqb : q ≤ b := hq ▸ Nat.div_le_self _ _
    have hp' : (a : Int) / (g : Int) = (p : Int) := by rw [← hp]; rfl
    have hq' : (b : Int) / (g : Int) = (q : Int) := by rw [← hq]; rfl
    have ha1 : a ≤ 9223372036854775808 := by have := HA.out; omega
    have hb1 : b ≤ 9223372036854775808 := by have := HB.out; omega
    have HP := hide hp; have HQ := hide hq; clear hp hq
    go_wp2
    go_quiet (fail)
    clear hp' hq'
    have hbig := mk_big (n := n) (d := d) h0 HA.out HB.out HG.out HP.out HQ.out
    have hneg := mk_neg (n := n) (d := d) h0 HA.out HB.out HG.out HP.out HQ.out
    have hpos := mk_pos (n := n) (d := d) h0 HA.out HB.out HG.out HP.out HQ.out
    have HBIG := hide hbig; have HNEG := hide hneg; have HPOS := hide hpos; clear hbig hneg hpos
    go_wp2
    · have h2 : (1000000000 : Int) < p ∨ (1000000000 : Int) < q := by assumption
      refine bodyPost_ret (v := .tuple #[.agg #[.int .i64 0, .int .i64 0], .int .i64 4]) (by simp [results, Try.results12, go_sem]) rfl ⟨?_, (by repeat (first | exact Below.refl _ _ | assumption | refine Below.alloc ?_ (by first | omega | (simp; omega) | simp) _ | refine Below.setCell ?_ (by first | omega | (simp; omega) | simp) _ | refine below_drewN ?_ _ | refine Below.drew ?_ | refine back ?_ (by assumption)))⟩
      rw [HBIG.out h2]; rfl
    · have h2 : (p : Int) ≤ 1000000000 ∧ (q : Int) ≤ 1000000000 := by assumption
      have h3 : (!decide (n < 0) == decide (d < 0)) = true := by assumption
      refine bodyPost_ret (v := .tuple #[.agg #[.int .i64 (-p), .int .i64 q], .int .i64 0]) (by simp [results, Try.results12, go_sem]) rfl ⟨?_, (by repeat (first | exact Below.refl _ _ | assumption | refine Below.alloc ?_ (by first | omega | (simp; omega) | simp) _ | refine Below.setCell ?_ (by first | omega | (simp; omega) | simp) _ | refine below_drewN ?_ _ | refine Below.drew ?_ | refine back ?_ (by assumption)))⟩
      rw [HNEG.out h2 h3]; rfl
    · have h2 : (p : Int) ≤ 1000000000 ∧ (q : Int) ≤ 1000000000 := by assumption
      have h3 : (!decide (n < 0) == decide (d < 0)) = false := by assumption
      refine bodyPost_ret (v := .tuple #[.agg #[.int .i64 p, .int .i64 q], .int .i64 0]) (by simp [results, Try.results12, go_sem]) rfl ⟨?_, (by repeat (first | exact Below.refl _ _ | assumption | refine Below.alloc ?_ (by first | omega | (simp; omega) | simp) _ | refine Below.setCell ?_ (by first | omega | (simp; omega) | simp) _ | refine below_drewN ?_ _ | refine Below.drew ?_ | refine back ?_ (by assumption)))⟩
      rw [HPOS.out h2 h3]; rfl
    · have h2 : (1000000000 : Int) < p := by assumption
      refine bodyPost_ret (v := .tuple #[.agg #[.int .i64 0, .int .i64 0], .int .i64 4]) (by simp [results, Try.results12, go_sem]) rfl ⟨?_, (by repeat (first | exact Below.refl _ _ | assumption | refine Below.alloc ?_ (by first | omega | (simp; omega) | simp) _ | refine Below.setCell ?_ (by first | omega | (simp; omega) | simp) _ | refine below_drewN ?_ _ | refine Below.drew ?_ | refine back ?_ (by assumption)))⟩
      rw [HBIG.out (.inl h2)]; rfl
set_option maxHeartbeats 400000 in
theorem rmake_w (n d : Int) (w : World) (_h1 : -9223372036854775808 ≤ n) (_h2 : n ≤ 9223372036854775807) (_h3 : -9223372036854775808 ≤ d) (_h4 : d ≤ 9223372036854775807) :
    Calls Try.prog 13 #[.int .i64 n, .int .i64 d] w fun e w' => e = .returned (frac (mk n d)) ∧ Below w.heap.size w w' := by
  by_cases h0 : d = 0
  · subst h0
    go_enter Try.func13, Try.ntmps13
    go_wp2
    exact bodyPost_ret (v := .tuple #[.agg #[.int .i64 0, .int .i64 0], .int .i64 11]) (by simp [results, Try.results13, go_sem]) rfl ⟨by simp [frac, mk], (Below.refl _ _).alloc (Nat.le_refl _) _⟩
  · have h0' : (d == 0) = false := by simpa using h0
    go_enter Try.func13, Try.ntmps13
    go_wp2_with (go_at_call 61; refine (rsize_w _ _ (by omega) (by omega)).mono ?_; rintro e w' ⟨rfl, rfl⟩)
    refine (gcd_w _ _ _ (by omega) (by omega)).mono ?_
    rintro e w' ⟨rfl, k, rfl⟩
    have hg0 : (0 : Int) < (Nat.gcd n.natAbs d.natAbs : Nat) := by
      have := Nat.gcd_pos_of_pos_right n.natAbs (show 0 < d.natAbs by omega); omega
    obtain ⟨a, ha⟩ : ∃ a, n.natAbs = a := ⟨_, rfl⟩
    obtain ⟨b, hb⟩ : ∃ b, d.natAbs = b := ⟨_, rfl⟩
    obtain ⟨g, hg⟩ : ∃ g, Nat.gcd a b = g := ⟨_, rfl⟩
    rw [ha, hb, hg] at hg0
    rw [ha, hb, hg]
    have HA := hide ha; have HB := hide hb; have HG := hide hg; clear ha hb hg
    have hg1 : ((g : Int) == 0) = false := by simp; omega
    obtain ⟨p, hp⟩ : ∃ p, a / g = p := ⟨_, rfl⟩
    obtain ⟨q, hq⟩ : ∃ q, b / g = q := ⟨_, rfl⟩
    have hpa : p ≤ a := hp ▸ Nat.div_le_self _ _
    have hqb : q ≤ b := hq ▸ Nat.div_le_self _ _
    have hp' : (a : Int) / (g : Int) = (p : Int) := by rw [← hp]; rfl
    have hq' : (b : Int) / (g : Int) = (q : Int) := by rw [← hq]; rfl
    have ha1 : a ≤ 9223372036854775808 := by have := HA.out; omega
    have hb1 : b ≤ 9223372036854775808 := by have := HB.out; omega
    have HP := hide hp; have HQ := hide hq; clear hp hq
    have hbig := mk_big (n := n) (d := d) h0 HA.out HB.out HG.out HP.out HQ.out
    have hneg := mk_neg (n := n) (d := d) h0 HA.out HB.out HG.out HP.out HQ.out
    have hpos := mk_pos (n := n) (d := d) h0 HA.out HB.out HG.out HP.out HQ.out
    have HBIG := hide hbig; have HNEG := hide hneg; have HPOS := hide hpos; clear hbig hneg hpos
    go_wp2
    · have h2 : (1000000000 : Int) < p ∨ (1000000000 : Int) < q := by assumption
      refine bodyPost_ret (v := .tuple #[.agg #[.int .i64 0, .int .i64 0], .int .i64 4]) (by simp [results, Try.results13, go_sem]) rfl ⟨?_, (by repeat (first | exact Below.refl _ _ | assumption | refine Below.alloc ?_ (by first | omega | (simp; omega) | simp) _ | refine Below.setCell ?_ (by first | omega | (simp; omega) | simp) _ | refine below_drewN ?_ _ | refine Below.drew ?_ | refine back ?_ (by assumption)))⟩
      rw [HBIG.out h2]; rfl
    · have h2 : (p : Int) ≤ 1000000000 ∧ (q : Int) ≤ 1000000000 := by assumption
      have h3 : (!decide (n < 0) == decide (d < 0)) = true := by assumption
      refine bodyPost_ret (v := .tuple #[.agg #[.int .i64 (-p), .int .i64 q], .int .i64 0]) (by simp [results, Try.results13, go_sem]) rfl ⟨?_, (by repeat (first | exact Below.refl _ _ | assumption | refine Below.alloc ?_ (by first | omega | (simp; omega) | simp) _ | refine Below.setCell ?_ (by first | omega | (simp; omega) | simp) _ | refine below_drewN ?_ _ | refine Below.drew ?_ | refine back ?_ (by assumption)))⟩
      rw [HNEG.out h2 h3]; rfl
    · have h2 : (p : Int) ≤ 1000000000 ∧ (q : Int) ≤ 1000000000 := by assumption
      have h3 : (!decide (n < 0) == decide (d < 0)) = false := by assumption
      refine bodyPost_ret (v := .tuple #[.agg #[.int .i64 p, .int .i64 q], .int .i64 0]) (by simp [results, Try.results13, go_sem]) rfl ⟨?_, (by repeat (first | exact Below.refl _ _ | assumption | refine Below.alloc ?_ (by first | omega | (simp; omega) | simp) _ | refine Below.setCell ?_ (by first | omega | (simp; omega) | simp) _ | refine below_drewN ?_ _ | refine Below.drew ?_ | refine back ?_ (by assumption)))⟩
      rw [HPOS.out h2 h3]; rfl
    · have h2 : (1000000000 : Int) < p := by assumption
      refine bodyPost_ret (v := .tuple #[.agg #[.int .i64 0, .int .i64 0], .int .i64 4]) (by simp [results, Try.results13, go_sem]) rfl ⟨?_, (by repeat (first | exact Below.refl _ _ | assumption | refine Below.alloc ?_ (by first | omega | (simp; omega) | simp) _ | refine Below.setCell ?_ (by first | omega | (simp; omega) | simp) _ | refine below_drewN ?_ _ | refine Below.drew ?_ | refine back ?_ (by assumption)))⟩
      rw [HBIG.out (.inl h2)]; rfl

def chk (n d : Int) : Int := if -1000000000 ≤ n ∧ n ≤ 1000000000 ∧ 1 ≤ d ∧ d ≤ 1000000000 ∧ Nat.gcd n.natAbs d.natAbs = 1 then 0 else 10

theorem mk_bd (n d : Int) : -1000000000 ≤ (mk n d).1 ∧ (mk n d).1 ≤ 1000000000 ∧ 0 ≤ (mk n d).2.1 ∧ (mk n d).2.1 ≤ 1000000000 ∧ ((mk n d).2.2 = 0 ∨ (mk n d).2.2 = 4 ∨ (mk n d).2.2 = 11) := by
  unfold mk
  generalize n.natAbs / Nat.gcd n.natAbs d.natAbs = p
  generalize d.natAbs / Nat.gcd n.natAbs d.natAbs = q
  split
  · simp
  · split
    · simp
    · rename_i h; split <;> (refine ⟨?_, ?_, ?_, ?_, .inl rfl⟩ <;> (show _ ≤ (_ : Int)) <;> simp only [] <;> omega)

theorem chk_of_mk (n d : Int) : chk n d = if (mk n d).2.2 = 0 ∧ (mk n d).1 = n ∧ (mk n d).2.1 = d then 0 else 10 := by
  unfold chk
  by_cases hv : -1000000000 ≤ n ∧ n ≤ 1000000000 ∧ 1 ≤ d ∧ d ≤ 1000000000 ∧ Nat.gcd n.natAbs d.natAbs = 1
  · rw [if_pos hv]
    obtain ⟨h1, h2, h3, h4, h5⟩ := hv
    have e : mk n d = (n, d, 0) := by
      unfold mk
      rw [if_neg (by omega), h5, Nat.div_one, Nat.div_one, if_neg (by omega)]
      split
      · rename_i h; have : -(n.natAbs : Int) = n := by omega
        have hd : (d.natAbs : Int) = d := by omega
        rw [this, hd]
      · rename_i h; have : (n.natAbs : Int) = n := by omega
        have hd : (d.natAbs : Int) = d := by omega
        rw [this, hd]
    rw [e]; simp
  · rw [if_neg hv]
    have hb := mk_bd n d
    rw [if_neg]
    rintro ⟨h0, h1, h2⟩
    rw [h1, h2] at hb
    apply hv
    have hd : d ≠ 0 := by
      intro h; subst h; unfold mk at h0; simp at h0
    refine ⟨hb.1, hb.2.1, by omega, hb.2.2.2.1, ?_⟩
    have hg : 0 < Nat.gcd n.natAbs d.natAbs := Nat.gcd_pos_of_pos_right _ (by omega)
    unfold mk at h0 h2
    rw [if_neg hd] at h0 h2
    split at h0
    · simp at h0
    · rename_i hx
      rw [if_neg hx] at h2
      have hq : (d.natAbs / Nat.gcd n.natAbs d.natAbs : Nat) = d.natAbs := by
        split at h2 <;> (simp at h2; omega)
      have hm := Nat.div_mul_cancel (Nat.gcd_dvd_right n.natAbs d.natAbs)
      rw [hq] at hm
      have : d.natAbs * Nat.gcd n.natAbs d.natAbs = d.natAbs * 1 := by rw [hm, Nat.mul_one]
      exact Nat.eq_of_mul_eq_mul_left (by omega) this
end Go.Proofs.Ytlpoenoijmifdaa
