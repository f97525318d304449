import Derived.Test.YtfbgnnelnpcbiaaDoorProg
import Derived.WalkKit
import Derived.WalkSpells
import Derived.WalkLawsBesides
import Derived.IntWalk
import Derived.Deep.QuietTactic
import Derived.BigQuiet
set_option linter.unusedVariables false
set_option linter.unusedSimpArgs false
namespace Go.Proofs.YtfbgnnelnpcbiaaDoor
open Go.RowKit

theorem ret_int {k : IntKind} {a b : Int} (h : a = b) : Ending.returned (.int k a) = .returned (.int k b) := by rw [h]

theorem size_neg (n : Int) (h1 : -9223372036854775808 ≤ n) (h : n < 0) : IntKind.u64.wrap (-IntKind.u64.wrap n) = (n.natAbs : Int) := by
  simp only [IntKind.wrap, IntKind.signed, IntKind.bits]
  simp
  omega

set_option maxHeartbeats 400000 in
theorem size_w (n : Int) (w : World) (_h1 : -9223372036854775808 ≤ n) (_h2 : n ≤ 9223372036854775807) :
    Calls Tryd.prog 48 #[.int .i64 n] w fun e w' => e = .returned (.int .u64 n.natAbs) ∧ w = w' := by
  by_cases h : n < 0
  · go_enter Tryd.func48, Tryd.ntmps48
    go_wp2
    go_ret
    exact ⟨ret_int (size_neg n _h1 h), rfl⟩
  · have h0 : 0 ≤ n := by omega
    go_enter Tryd.func48, Tryd.ntmps48
    go_wp2
    go_ret
    exact ⟨ret_int (by omega), rfl⟩

set_option maxHeartbeats 400000 in
theorem rsize_w (n : Int) (w : World) (_h1 : -9223372036854775808 ≤ n) (_h2 : n ≤ 9223372036854775807) :
    Calls Tryd.prog 59 #[.int .i64 n] w fun e w' => e = .returned (.int .u64 n.natAbs) ∧ w = w' := by
  by_cases h : n < 0
  · go_enter Tryd.func59, Tryd.ntmps59
    go_wp2
    go_ret
    exact ⟨ret_int (by omega), rfl⟩
  · have h0 : 0 ≤ n := by omega
    go_enter Tryd.func59, Tryd.ntmps59
    go_wp2
    go_ret
    exact ⟨ret_int (by omega), rfl⟩

theorem hide {p : Prop} (h : p) : Hid p := h

def Drew (w w' : World) : Prop := ∃ n, w' = w.drewN n

set_option maxHeartbeats 400000 in
theorem divisor_w (a b : Nat) (w : World) (_h1 : a ≤ 18446744073709551615) (_h2 : b ≤ 18446744073709551615) :
    Calls Tryd.prog 49 #[.int .u64 a, .int .u64 b] w fun e w' => e = .returned (.int .u64 (Nat.gcd a b)) ∧ Drew w w' := by
  go_enter Tryd.func49, Tryd.ntmps49
  go_wp2
  go_loopw [0, 1] (fun x y wr => ∃ c d n : Nat, x = .int .u64 c ∧ y = .int .u64 d ∧ Hid (Nat.gcd c d = Nat.gcd a b) ∧ c ≤ 18446744073709551615 ∧ d ≤ 18446744073709551615 ∧ wr = w.drewN n) (fun _ y _ => (intOf y).toNat)
  case atStart => exact ⟨a, b, 0, rfl, rfl, rfl, _h1, _h2, rfl⟩
  case round =>
    obtain ⟨c, d, n, rfl, rfl, hg, hc, hd, rfl⟩ := hrel
    by_cases h : d = 0
    · subst h
      go_wp2
      go_ret
      exact ⟨ret_int (by have := hg.out; simp at this; omega), ⟨n, rfl⟩⟩
    · have hne : ((d : Int) == 0) = false := by simp; omega
      have hne2 : ((d : Int) != 0) = true := by simp; omega
      go_wp2
      go_quiet (fail)
      go_wp2
      go_roundw
      case rel => exact ⟨d, c % d, _, rfl, by rw [Int.natCast_emod], hide (by rw [← hg.out, Nat.gcd_comm d, ← Nat.gcd_rec, Nat.gcd_comm]), hd, by have := Nat.mod_lt c (Nat.pos_of_ne_zero h); omega, World.drewN_drewN _ _ _⟩
      case measure => have := Nat.mod_lt c (Nat.pos_of_ne_zero h); simp [intOf]; omega
/-- The fraction n / d in lowest terms, d above 0 or below; the error and the zero fraction otherwise. -/
def mk (n d : Int) : Int × Int × Int :=
  if d = 0 then (0, 0, 11)
  else if 1000000000 < n.natAbs / Nat.gcd n.natAbs d.natAbs ∨ 1000000000 < d.natAbs / Nat.gcd n.natAbs d.natAbs then (0, 0, 4)
  else if n < 0 ∧ 0 < d ∨ 0 ≤ n ∧ d < 0 then (-((n.natAbs / Nat.gcd n.natAbs d.natAbs : Nat) : Int), (d.natAbs / Nat.gcd n.natAbs d.natAbs : Nat), 0)
  else ((n.natAbs / Nat.gcd n.natAbs d.natAbs : Nat), (d.natAbs / Nat.gcd n.natAbs d.natAbs : Nat), 0)

def frac (x : Int × Int × Int) : Value := .tuple #[.agg #[.int .i64 x.1, .int .i64 x.2.1], .int .i64 x.2.2]

theorem mk_big {n d : Int} {a b g p q : Nat} (h0 : ¬ d = 0) (ha : n.natAbs = a) (hb : d.natAbs = b) (hg : Nat.gcd a b = g) (hp : a / g = p) (hq : b / g = q)
    (h : (1000000000 : Int) < p ∨ (1000000000 : Int) < q) : mk n d = (0, 0, 4) := by
  unfold mk
  rw [if_neg h0, ha, hb, hg, hp, hq, if_pos (by omega)]

theorem mk_neg {n d : Int} {a b g p q : Nat} (h0 : ¬ d = 0) (ha : n.natAbs = a) (hb : d.natAbs = b) (hg : Nat.gcd a b = g) (hp : a / g = p) (hq : b / g = q)
    (h : (p : Int) ≤ 1000000000 ∧ (q : Int) ≤ 1000000000) (hs : (!decide (n < 0) == decide (d < 0)) = true) : mk n d = (-(p : Int), (q : Int), 0) := by
  unfold mk
  rw [if_neg h0, ha, hb, hg, hp, hq, if_neg (by omega), if_pos]
  simp at hs; omega

theorem mk_pos {n d : Int} {a b g p q : Nat} (h0 : ¬ d = 0) (ha : n.natAbs = a) (hb : d.natAbs = b) (hg : Nat.gcd a b = g) (hp : a / g = p) (hq : b / g = q)
    (h : (p : Int) ≤ 1000000000 ∧ (q : Int) ≤ 1000000000) (hs : (!decide (n < 0) == decide (d < 0)) = false) : mk n d = ((p : Int), (q : Int), 0) := by
  unfold mk
  rw [if_neg h0, ha, hb, hg, hp, hq, if_neg (by omega), if_neg]
  simp at hs; omega

set_option maxHeartbeats 400000 in
theorem make_w (n d : Int) (w : World) (_h1 : -9223372036854775808 ≤ n) (_h2 : n ≤ 9223372036854775807) (_h3 : -9223372036854775808 ≤ d) (_h4 : d ≤ 9223372036854775807) :
    Calls Tryd.prog 31 #[.int .i64 n, .int .i64 d] w fun e w' => e = .returned (frac (mk n d)) ∧ Below w.heap.size w w' := by
  by_cases h0 : d = 0
  · subst h0
    go_enter Tryd.func31, Tryd.ntmps31
    go_wp2
    exact bodyPost_ret (v := .tuple #[.agg #[.int .i64 0, .int .i64 0], .int .i64 11]) (by simp [results, Tryd.results31, go_sem]) rfl ⟨by simp [frac, mk], (Below.refl _ _).alloc (Nat.le_refl _) _⟩
  · have h0' : (d == 0) = false := by simpa using h0
    go_enter Tryd.func31, Tryd.ntmps31
    go_wp2_with (go_at_call 48; refine (size_w _ _ (by omega) (by omega)).mono ?_; rintro e w' ⟨rfl, rfl⟩)
    refine (divisor_w _ _ _ (by omega) (by omega)).mono ?_
    rintro e w' ⟨rfl, k, rfl⟩
    have hg0 : (0 : Int) < (Nat.gcd n.natAbs d.natAbs : Nat) := by
      have := Nat.gcd_pos_of_pos_right n.natAbs (show 0 < d.natAbs by omega); omega
    obtain ⟨a, ha⟩ : ∃ a, n.natAbs = a := ⟨_, rfl⟩
    obtain ⟨b, hb⟩ : ∃ b, d.natAbs = b := ⟨_, rfl⟩
    obtain ⟨g, hg⟩ : ∃ g, Nat.gcd a b = g := ⟨_, rfl⟩
    rw [ha, hb, hg] at hg0
    rw [ha, hb, hg]
    have HA := hide ha; have HB := hide hb; have HG := hide hg; clear ha hb hg
    have hg1 : ((g : Int) == 0) = false := by simp; omega
    obtain ⟨p, hp⟩ : ∃ p, a / g = p := ⟨_, rfl⟩
    obtain ⟨q, hq⟩ : ∃ q, b / g = q := ⟨_, rfl⟩
    have hpa : p ≤ a := hp ▸ Nat.div_le_self _ _
    have hqb : q ≤ b := hq ▸ Nat.div_le_self _ _
    have hp' : (a : Int) / (g : Int) = (p : Int) := by rw [← hp]; rfl
    have hq' : (b : Int) / (g : Int) = (q : Int) := by rw [← hq]; rfl
    have ha1 : a ≤ 9223372036854775808 := by have := HA.out; omega
    have hb1 : b ≤ 9223372036854775808 := by have := HB.out; omega
    have HP := hide hp; have HQ := hide hq; clear hp hq
    go_wp2
    go_quiet (fail)
    clear hp' hq'
    have hbig := mk_big (n := n) (d := d) h0 HA.out HB.out HG.out HP.out HQ.out
    have hneg := mk_neg (n := n) (d := d) h0 HA.out HB.out HG.out HP.out HQ.out
    have hpos := mk_pos (n := n) (d := d) h0 HA.out HB.out HG.out HP.out HQ.out
    have HBIG := hide hbig; have HNEG := hide hneg; have HPOS := hide hpos; clear hbig hneg hpos
    go_wp2
    · have h2 : (1000000000 : Int) < p ∨ (1000000000 : Int) < q := by assumption
      refine bodyPost_ret (v := .tuple #[.agg #[.int .i64 0, .int .i64 0], .int .i64 4]) (by simp [results, Tryd.results31, go_sem]) rfl ⟨?_, (by repeat (first | exact Below.refl _ _ | assumption | refine Below.alloc ?_ (by first | omega | (simp; omega) | simp) _ | refine Below.setCell ?_ (by first | omega | (simp; omega) | simp) _ | refine below_drewN ?_ _ | refine Below.drew ?_ | refine back ?_ (by assumption)))⟩
      rw [HBIG.out h2]; rfl
    · have h2 : (p : Int) ≤ 1000000000 ∧ (q : Int) ≤ 1000000000 := by assumption
      have h3 : (!decide (n < 0) == decide (d < 0)) = true := by assumption
      refine bodyPost_ret (v := .tuple #[.agg #[.int .i64 (-p), .int .i64 q], .int .i64 0]) (by simp [results, Tryd.results31, go_sem]) rfl ⟨?_, (by repeat (first | exact Below.refl _ _ | assumption | refine Below.alloc ?_ (by first | omega | (simp; omega) | simp) _ | refine Below.setCell ?_ (by first | omega | (simp; omega) | simp) _ | refine below_drewN ?_ _ | refine Below.drew ?_ | refine back ?_ (by assumption)))⟩
      rw [HNEG.out h2 h3]; rfl
    · have h2 : (p : Int) ≤ 1000000000 ∧ (q : Int) ≤ 1000000000 := by assumption
      have h3 : (!decide (n < 0) == decide (d < 0)) = false := by assumption
      refine bodyPost_ret (v := .tuple #[.agg #[.int .i64 p, .int .i64 q], .int .i64 0]) (by simp [results, Tryd.results31, go_sem]) rfl ⟨?_, (by repeat (first | exact Below.refl _ _ | assumption | refine Below.alloc ?_ (by first | omega | (simp; omega) | simp) _ | refine Below.setCell ?_ (by first | omega | (simp; omega) | simp) _ | refine below_drewN ?_ _ | refine Below.drew ?_ | refine back ?_ (by assumption)))⟩
      rw [HPOS.out h2 h3]; rfl
    · have h2 : (1000000000 : Int) < p := by assumption
      refine bodyPost_ret (v := .tuple #[.agg #[.int .i64 0, .int .i64 0], .int .i64 4]) (by simp [results, Tryd.results31, go_sem]) rfl ⟨?_, (by repeat (first | exact Below.refl _ _ | assumption | refine Below.alloc ?_ (by first | omega | (simp; omega) | simp) _ | refine Below.setCell ?_ (by first | omega | (simp; omega) | simp) _ | refine below_drewN ?_ _ | refine Below.drew ?_ | refine back ?_ (by assumption)))⟩
      rw [HBIG.out (.inl h2)]; rfl
def chk (n d : Int) : Int := if -1000000000 ≤ n ∧ n ≤ 1000000000 ∧ 1 ≤ d ∧ d ≤ 1000000000 ∧ Nat.gcd n.natAbs d.natAbs = 1 then 0 else 10

theorem mk_bd (n d : Int) : -1000000000 ≤ (mk n d).1 ∧ (mk n d).1 ≤ 1000000000 ∧ 0 ≤ (mk n d).2.1 ∧ (mk n d).2.1 ≤ 1000000000 ∧ ((mk n d).2.2 = 0 ∨ (mk n d).2.2 = 4 ∨ (mk n d).2.2 = 11) := by
  unfold mk
  generalize n.natAbs / Nat.gcd n.natAbs d.natAbs = p
  generalize d.natAbs / Nat.gcd n.natAbs d.natAbs = q
  split
  · simp
  · split
    · simp
    · rename_i h; split <;> (refine ⟨?_, ?_, ?_, ?_, .inl rfl⟩ <;> (show _ ≤ (_ : Int)) <;> simp only [] <;> omega)

theorem chk_of_mk (n d : Int) : chk n d = if (mk n d).2.2 = 0 ∧ (mk n d).1 = n ∧ (mk n d).2.1 = d then 0 else 10 := by
  unfold chk
  by_cases hv : -1000000000 ≤ n ∧ n ≤ 1000000000 ∧ 1 ≤ d ∧ d ≤ 1000000000 ∧ Nat.gcd n.natAbs d.natAbs = 1
  · rw [if_pos hv]
    obtain ⟨h1, h2, h3, h4, h5⟩ := hv
    have e : mk n d = (n, d, 0) := by
      unfold mk
      rw [if_neg (by omega), h5, Nat.div_one, Nat.div_one, if_neg (by omega)]
      split
      · rename_i h; have : -(n.natAbs : Int) = n := by omega
        have hd : (d.natAbs : Int) = d := by omega
        rw [this, hd]
      · rename_i h; have : (n.natAbs : Int) = n := by omega
        have hd : (d.natAbs : Int) = d := by omega
        rw [this, hd]
    rw [e]; simp
  · rw [if_neg hv]
    have hb := mk_bd n d
    rw [if_neg]
    rintro ⟨h0, h1, h2⟩
    rw [h1, h2] at hb
    apply hv
    have hd : d ≠ 0 := by
      intro h; subst h; unfold mk at h0; simp at h0
    refine ⟨hb.1, hb.2.1, by omega, hb.2.2.2.1, ?_⟩
    have hg : 0 < Nat.gcd n.natAbs d.natAbs := Nat.gcd_pos_of_pos_right _ (by omega)
    unfold mk at h0 h2
    rw [if_neg hd] at h0 h2
    split at h0
    · simp at h0
    · rename_i hx
      rw [if_neg hx] at h2
      have hq : (d.natAbs / Nat.gcd n.natAbs d.natAbs : Nat) = d.natAbs := by
        split at h2 <;> (simp at h2; omega)
      have hm := Nat.div_mul_cancel (Nat.gcd_dvd_right n.natAbs d.natAbs)
      rw [hq] at hm
      have : d.natAbs * Nat.gcd n.natAbs d.natAbs = d.natAbs * 1 := by rw [hm, Nat.mul_one]
      exact Nat.eq_of_mul_eq_mul_left (by omega) this
end Go.Proofs.YtfbgnnelnpcbiaaDoor

namespace Go.Proofs.YtfbgnnelnpcbiaaDoor
open Go.RowKit

theorem bcell {W w1 : World} (hb : Below W.heap.size W w1) : (∀ b o, b < W.heap.size → w1.cell? ⟨b, o, none⟩ = W.cell? ⟨b, o, none⟩) ∧ (∀ b o, b < W.heap.size → w1.frozen? ⟨b, o, none⟩ = W.frozen? ⟨b, o, none⟩) :=
  ⟨fun b o h => hb.cell (p := ⟨b, o, none⟩) h, fun b o h => hb.frozen (p := ⟨b, o, none⟩) h⟩

theorem back {W w1 w : World} (h1 : Below w.heap.size w W) (hb : Below W.heap.size W w1) : Below w.heap.size w w1 := h1.trans (hb.mono h1.size)

def FB (n : Int) : Prop := -9223372036854775808 ≤ n ∧ n ≤ 9223372036854775807

theorem make_c {n d p q r : Int} (hm : Hid (mk n d = (p, q, r))) (w : World) (hn : FB n) (hd : FB d) :
    Calls Tryd.prog 31 #[.int .i64 n, .int .i64 d] w fun e w' => e = .returned (.tuple #[.agg #[.int .i64 p, .int .i64 q], .int .i64 r]) ∧ Below w.heap.size w w' :=
  (make_w n d w hn.1 hn.2 hd.1 hd.2).mono fun _ _ ⟨he, hw⟩ => ⟨by rw [he, frac, hm.out], hw⟩
set_option maxHeartbeats 400000 in
theorem check_w (n d : Int) (w : World) (hn : FB n) (hd : FB d) :
    Calls Tryd.prog 50 #[.agg #[.int .i64 n, .int .i64 d]] w fun e w' => e = .returned (.int .i64 (chk n d)) ∧ Below w.heap.size w w' := by
  obtain ⟨p, q, r, hm⟩ : ∃ p q r, Hid (mk n d = (p, q, r)) := ⟨_, _, _, rfl⟩
  go_enter Tryd.func50, Tryd.ntmps50
  go_wp2_with (go_at_call 31; refine (make_c hm _ hn hd).mono ?_; rintro e w1 ⟨rfl, hb⟩; obtain ⟨hc, hf⟩ := bcell hb; have hz : w.heap.size < w1.heap.size := by have := hb.size; simp at this; omega)
  all_goals (go_ret; exact ⟨ret_int (by rw [chk_of_mk, hm.out]; simp [*]), (by repeat (first | exact Below.refl _ _ | assumption | refine Below.alloc ?_ (by first | omega | (simp; omega) | simp) _ | refine Below.setCell ?_ (by first | omega | (simp; omega) | simp) _ | refine below_drewN ?_ _ | refine Below.drew ?_ | refine back ?_ (by assumption)))⟩)

theorem chk_r (n d : Int) (h : ¬ (n < -1000000000 ∨ 1000000000 < n ∨ d < 1 ∨ 1000000000 < d)) : chk n d = if Nat.gcd n.natAbs d.natAbs = 1 then 0 else 10 := by
  unfold chk
  split
  · rename_i h'; rw [if_pos h'.2.2.2.2]
  · rename_i h'; rw [if_neg]; intro hg; exact h' ⟨by omega, by omega, by omega, by omega, hg⟩

theorem chk_out (n d : Int) (h : n < -1000000000 ∨ 1000000000 < n ∨ d < 1 ∨ 1000000000 < d) : chk n d = 10 := by
  unfold chk; rw [if_neg]; omega

theorem chk_or (n d : Int) : chk n d = 0 ∨ chk n d = 10 := by unfold chk; split <;> simp

def chk2 (an ad bn bd : Int) : Int := if chk an ad = 0 ∧ chk bn bd = 0 then 0 else 10
theorem chk2_or (an ad bn bd : Int) : chk2 an ad bn bd = 0 ∨ chk2 an ad bn bd = 10 := by unfold chk2; split <;> simp

end Go.Proofs.YtfbgnnelnpcbiaaDoor

namespace Go.Proofs.YtfbgnnelnpcbiaaDoor
open Go.RowKit

/-- A calculation with two fractions: the error of both, or n / d in lowest terms. -/
def opF (an ad bn bd n d : Int) : Int × Int × Int := if chk2 an ad bn bd = 0 then mk n d else (0, 0, 10)

theorem chk_bd {n d : Int} (h : chk n d = 0) : -1000000000 ≤ n ∧ n ≤ 1000000000 ∧ 1 ≤ d ∧ d ≤ 1000000000 := by
  unfold chk at h; split at h
  · omega
  · simp at h

theorem mul_bd {x y : Int} (hx : -1000000000 ≤ x ∧ x ≤ 1000000000) (hy : -1000000000 ≤ y ∧ y ≤ 1000000000) : -1000000000000000000 ≤ x * y ∧ x * y ≤ 1000000000000000000 := by
  have h1 : (1000000000 - x) * (1000000000 + y) ≥ 0 := Int.mul_nonneg (by omega) (by omega)
  have h2 : (1000000000 + x) * (1000000000 - y) ≥ 0 := Int.mul_nonneg (by omega) (by omega)
  have h3 : (1000000000 + x) * (1000000000 + y) ≥ 0 := Int.mul_nonneg (by omega) (by omega)
  have h4 : (1000000000 - x) * (1000000000 - y) ≥ 0 := Int.mul_nonneg (by omega) (by omega)
  simp only [Int.sub_mul, Int.add_mul, Int.mul_sub, Int.mul_add] at h1 h2 h3 h4
  omega

theorem chk2_zero {an ad bn bd : Int} (h : chk2 an ad bn bd = 0) : chk an ad = 0 ∧ chk bn bd = 0 := by
  unfold chk2 at h; split at h
  · assumption
  · simp at h

end Go.Proofs.YtfbgnnelnpcbiaaDoor

namespace Go.Proofs.YtfbgnnelnpcbiaaDoor
open Go.RowKit

def cmpF (an ad bn bd : Int) : Int := if chk2 an ad bn bd = 0 then (if an * bd < bn * ad then -1 else if bn * ad < an * bd then 1 else 0) else 0

/-- Two fractions in lowest terms with one value are one. -/
theorem chk_eq {an ad bn bd : Int} (h1 : chk an ad = 0) (h2 : chk bn bd = 0) (h : an * bd = bn * ad) : an = bn ∧ ad = bd := by
  have v : ∀ n d : Int, chk n d = 0 → 1 ≤ d ∧ Nat.gcd n.natAbs d.natAbs = 1 := by
    intro n d h; unfold chk at h; split at h
    · rename_i h'; exact ⟨h'.2.2.1, h'.2.2.2.2⟩
    · simp at h
  obtain ⟨a1, a2⟩ := v _ _ h1
  obtain ⟨b1, b2⟩ := v _ _ h2
  have hn : an.natAbs * bd.natAbs = bn.natAbs * ad.natAbs := by rw [← Int.natAbs_mul, ← Int.natAbs_mul, h]
  have d1 : ad.natAbs ∣ bd.natAbs := by
    have : ad.natAbs ∣ an.natAbs * bd.natAbs := ⟨bn.natAbs, by rw [hn, Nat.mul_comm]⟩
    exact Nat.Coprime.dvd_of_dvd_mul_left (Nat.Coprime.symm a2) this
  have d2 : bd.natAbs ∣ ad.natAbs := by
    have : bd.natAbs ∣ bn.natAbs * ad.natAbs := ⟨an.natAbs, by rw [← hn, Nat.mul_comm]⟩
    exact Nat.Coprime.dvd_of_dvd_mul_left (Nat.Coprime.symm b2) this
  have hd : ad = bd := by have := Nat.dvd_antisymm d1 d2; omega
  subst hd
  exact ⟨Int.eq_of_mul_eq_mul_right (by omega) h, rfl⟩

/-- n / d rounded down, for d above 0. -/
def flo (n d : Int) : Int := n / d

theorem tdiv_neg {n d : Int} (hd : 0 < d) (h : n.tmod d < 0) : n.tdiv d - 1 = n / d := by
  have h1 := Int.tmod_add_mul_tdiv n d
  have h2 := Int.emod_add_mul_ediv n d
  have h3 := Int.emod_nonneg n (show d ≠ 0 by omega)
  have h4 := Int.emod_lt_of_pos n hd
  have h5 := Int.lt_tmod_of_pos n hd
  have : d * (n.tdiv d - 1 - n / d) = n % d - n.tmod d - d := by
    rw [Int.mul_sub, Int.mul_sub]; omega
  have h6 : d * (n.tdiv d - 1 - n / d) < d * 1 := by omega
  have h7 : d * (-1) < d * (n.tdiv d - 1 - n / d) := by omega
  have h8 := Int.lt_of_mul_lt_mul_left h6 (by omega)
  have h9 := Int.lt_of_mul_lt_mul_left h7 (by omega)
  omega

theorem tdiv_pos {n d : Int} (hd : 0 < d) (h : 0 ≤ n.tmod d) : n.tdiv d = n / d := by
  have h1 := Int.tmod_add_mul_tdiv n d
  have h2 := Int.emod_add_mul_ediv n d
  have h3 := Int.emod_nonneg n (show d ≠ 0 by omega)
  have h4 := Int.emod_lt_of_pos n hd
  have h5 := Int.tmod_lt_of_pos n hd
  have : d * (n.tdiv d - n / d) = n % d - n.tmod d := by
    rw [Int.mul_sub]; omega
  have h6 : d * (n.tdiv d - n / d) < d * 1 := by omega
  have h7 : d * (-1) < d * (n.tdiv d - n / d) := by omega
  have h8 := Int.lt_of_mul_lt_mul_left h6 (by omega)
  have h9 := Int.lt_of_mul_lt_mul_left h7 (by omega)
  omega

theorem tdiv_bd {n d : Int} (hd : 0 < d) : (0 ≤ n → 0 ≤ n.tdiv d ∧ n.tdiv d ≤ n) ∧ (n ≤ 0 → n ≤ n.tdiv d ∧ n.tdiv d ≤ 0) := by
  constructor
  · intro h
    exact ⟨Int.tdiv_nonneg h (by omega), by rw [Int.tdiv_eq_ediv_of_nonneg h]; exact Int.ediv_le_self _ h⟩
  · intro h
    have e : n.tdiv d = -((-n).tdiv d) := by rw [Int.neg_tdiv]; omega
    have h1 := Int.tdiv_nonneg (show 0 ≤ -n by omega) (show 0 ≤ d by omega)
    have h2 : (-n).tdiv d ≤ -n := by rw [Int.tdiv_eq_ediv_of_nonneg (by omega)]; exact Int.ediv_le_self _ (by omega)
    omega

theorem flo_bd {n d : Int} (hd : 0 < d) (h1 : -5000000000 ≤ n) (h2 : n ≤ 5000000000) : -5000000000 ≤ flo n d ∧ flo n d ≤ 5000000000 := by
  unfold flo
  have := Int.emod_add_mul_ediv n d
  have h3 := Int.emod_nonneg n (show d ≠ 0 by omega)
  have h4 := Int.emod_lt_of_pos n hd
  constructor
  · refine (Int.le_ediv_iff_mul_le hd).2 ?_
    have : 5000000000 * (d - 1) ≥ 0 := Int.mul_nonneg (by omega) (by omega)
    omega
  · refine Int.le_of_lt_add_one ((Int.ediv_lt_iff_lt_mul hd).2 ?_)
    have : 5000000000 * (d - 1) ≥ 0 := Int.mul_nonneg (by omega) (by omega)
    omega

set_option maxHeartbeats 400000 in
theorem floorDiv_w (n d : Int) (w : World) (_h1 : -9223372036854775807 ≤ n) (_h2 : n ≤ 9223372036854775807) (_h3 : 0 < d) (_h4 : d ≤ 9223372036854775807) :
    Calls Tryd.prog 22 #[.int .i64 n, .int .i64 d] w fun e w' => e = .returned (.int .i64 (flo n d)) ∧ w = w' := by
  have hne : (d == 0) = false := by simp; omega
  have ht := tdiv_bd (n := n) _h3
  obtain ⟨ht1, ht2⟩ := ht
  have hb : -9223372036854775807 ≤ n.tdiv d ∧ n.tdiv d ≤ 9223372036854775807 := by omega
  obtain ⟨hb1, hb2⟩ := hb
  clear ht1 ht2
  by_cases hm : n.tmod d < 0
  · have HT := hide (tdiv_neg _h3 hm)
    go_enter Tryd.func22, Tryd.ntmps22
    go_wp2
    go_ret
    exact ⟨ret_int HT.out, rfl⟩
  · have HT := hide (tdiv_pos (n := n) _h3 (by omega))
    go_enter Tryd.func22, Tryd.ntmps22
    go_wp2
    go_ret
    exact ⟨ret_int HT.out, rfl⟩

set_option maxHeartbeats 400000 in
theorem down_w (n d : Int) (w : World) (_h1 : -9223372036854775807 ≤ n) (_h2 : n ≤ 9223372036854775807) (_h3 : 0 < d) (_h4 : d ≤ 9223372036854775807) :
    Calls Tryd.prog 23 #[.int .i64 n, .int .i64 d] w fun e w' => e = .returned (.int .i64 (flo n d)) ∧ w = w' := by
  have hne : (d == 0) = false := by simp; omega
  have ht := tdiv_bd (n := n) _h3
  obtain ⟨ht1, ht2⟩ := ht
  have hb : -9223372036854775807 ≤ n.tdiv d ∧ n.tdiv d ≤ 9223372036854775807 := by omega
  obtain ⟨hb1, hb2⟩ := hb
  clear ht1 ht2
  by_cases hm : n.tmod d < 0
  · have HT := hide (tdiv_neg _h3 hm)
    go_enter Tryd.func23, Tryd.ntmps23
    go_wp2
    go_ret
    exact ⟨ret_int HT.out, rfl⟩
  · have HT := hide (tdiv_pos (n := n) _h3 (by omega))
    go_enter Tryd.func23, Tryd.ntmps23
    go_wp2
    go_ret
    exact ⟨ret_int HT.out, rfl⟩

set_option maxHeartbeats 400000 in
theorem round_w (n d : Int) (w : World) (h1 : FB n) (h2 : FB d) :
    Calls Tryd.prog 32 #[.agg #[.int .i64 n, .int .i64 d]] w fun e w' => e = .returned (.tuple #[.int .i64 (if chk n d = 0 then flo (2 * n + d) (2 * d) else 0), .int .i64 (chk n d)]) ∧ Below w.heap.size w w' := by
  rcases chk_or n d with hA | hA
  · have b1 := chk_bd hA
    obtain ⟨b1a, b1b, b1c, b1d⟩ := b1
    have fb := flo_bd (n := n) (d := d) (by omega) (by omega) (by omega)
    have fc := flo_bd (n := -n) (d := d) (by omega) (by omega) (by omega)
    have fd := flo_bd (n := 2 * n + d) (d := 2 * d) (by omega) (by omega) (by omega)
    obtain ⟨fb1, fb2⟩ := fb
    obtain ⟨fc1, fc2⟩ := fc
    obtain ⟨fd1, fd2⟩ := fd
    go_enter Tryd.func32, Tryd.ntmps32
    go_wp2_with (first | (go_at_call 50; refine (check_w _ _ _ (by assumption) (by assumption)).mono ?_; rintro e w1 ⟨rfl, hb1⟩; obtain ⟨hc1, hf1⟩ := bcell hb1; have hz1 := hb1.size; (try simp at hz1); have hs1_0 : w.heap.size < w1.heap.size := (by omega)) | (go_at_call 22; refine (floorDiv_w _ _ _ (by omega) (by omega) (by omega) (by omega)).mono ?_; rintro e w' ⟨rfl, rfl⟩))
    go_ret2
    exact ⟨by simp [hA], (by repeat (first | exact Below.refl _ _ | assumption | refine Below.alloc ?_ (by first | omega | (simp; omega) | simp) _ | refine Below.setCell ?_ (by first | omega | (simp; omega) | simp) _ | refine below_drewN ?_ _ | refine Below.drew ?_ | refine back ?_ (by assumption)))⟩
  · go_enter Tryd.func32, Tryd.ntmps32
    go_wp2_with (go_at_call 50; refine (check_w _ _ _ (by assumption) (by assumption)).mono ?_; rintro e w1 ⟨rfl, hb1⟩; obtain ⟨hc1, hf1⟩ := bcell hb1; have hz1 := hb1.size; (try simp at hz1); have hs1_0 : w.heap.size < w1.heap.size := (by omega))
    go_ret2
    exact ⟨by simp [hA], (by repeat (first | exact Below.refl _ _ | assumption | refine Below.alloc ?_ (by first | omega | (simp; omega) | simp) _ | refine Below.setCell ?_ (by first | omega | (simp; omega) | simp) _ | refine below_drewN ?_ _ | refine Below.drew ?_ | refine back ?_ (by assumption)))⟩

end Go.Proofs.YtfbgnnelnpcbiaaDoor

namespace Go.Proofs.YtfbgnnelnpcbiaaDoor
open Go.RowKit

/-- The slice value v reads as the integers xs (kind int); its cells lie below block number B. -/
def IsLB (B : Nat) (w : World) (v : Value) (xs : List Int) : Prop :=
  ∃ a cap, v = .slice a xs.length cap ∧ xs.length ≤ cap ∧ cap ≤ maxLen ∧ (∀ x ∈ xs, FB x) ∧
    (xs ≠ [] → ∃ b off, a = some ⟨b, off, none⟩ ∧ b < B ∧ ∀ i, i < xs.length → w.cell? ⟨b, off + i, none⟩ = some (.int .i64 (xs[i]?.getD 0)))

def IsL (w : World) (v : Value) (xs : List Int) : Prop := IsLB w.heap.size w v xs

theorem IsLB.keep {B : Nat} {w w' : World} {v : Value} {xs : List Int} (h : IsLB B w v xs) (hk : ∀ p : Addr, p.block < B → w'.cell? p = w.cell? p) : IsLB B w' v xs := by
  obtain ⟨a, cap, hv, h1, h2, h3, h4⟩ := h
  refine ⟨a, cap, hv, h1, h2, h3, fun hne => ?_⟩
  obtain ⟨b, off, ha, hlt, hc⟩ := h4 hne
  exact ⟨b, off, ha, hlt, fun i hi => by rw [hk ⟨b, off + i, none⟩ hlt]; exact hc i hi⟩

theorem IsLB.more {B B' : Nat} {w : World} {v : Value} {xs : List Int} (h : IsLB B w v xs) (hB : B ≤ B') : IsLB B' w v xs := by
  obtain ⟨a, cap, hv, h1, h2, h3, h4⟩ := h
  refine ⟨a, cap, hv, h1, h2, h3, fun hne => ?_⟩
  obtain ⟨b, off, ha, hlt, hc⟩ := h4 hne
  exact ⟨b, off, ha, by omega, hc⟩

theorem IsLB.below {B : Nat} {w w' : World} {v : Value} {xs : List Int} (h : IsLB B w v xs) (hb : Below B w w') : IsLB B w' v xs := h.keep fun _ hp => hb.cell hp
theorem IsLB.drewN {B : Nat} {w : World} {v : Value} {xs : List Int} (h : IsLB B w v xs) (n : Nat) : IsLB B (w.drewN n) v xs := h
theorem IsL.drewN {w : World} {v : Value} {xs : List Int} (h : IsL w v xs) (n : Nat) : IsL (w.drewN n) v xs := h
theorem IsLB.isL {B : Nat} {w : World} {v : Value} {xs : List Int} (h : IsLB B w v xs) (hB : B ≤ w.heap.size) : IsL w v xs := h.more hB
theorem IsL.below {w w' : World} {v : Value} {xs : List Int} (h : IsL w v xs) (hb : Below w.heap.size w w') : IsL w' v xs := IsLB.isL (IsLB.below h hb) hb.size

theorem take_all {α : Type} (p : α → Bool) (xs : List α) (k : Nat) (h : k < xs.length) : (xs.take (k + 1)).all p = ((xs.take k).all p && p xs[k]) := by
  rw [List.take_succ_eq_append_getElem h, List.all_append]; simp

theorem all_false {α : Type} (p : α → Bool) (xs : List α) (k : Nat) (h : k < xs.length) (hp : p xs[k] = false) : xs.all p = false := by
  rw [Bool.eq_false_iff]; intro h'; rw [List.all_eq_true] at h'; have := h' _ (List.getElem_mem h); rw [hp] at this; cases this

theorem ret_bool {a b : Bool} (h : a = b) : Ending.returned (.bool a) = .returned (.bool b) := by rw [h]

def inB (lo hi x : Int) : Bool := decide (lo ≤ x ∧ x ≤ hi)
theorem inB_t {lo hi x : Int} (h : lo ≤ x ∧ x ≤ hi) : inB lo hi x = true := by simp [inB, h]
theorem inB_f {lo hi x : Int} (h : ¬ (lo ≤ x ∧ x ≤ hi)) : inB lo hi x = false := by unfold inB; simp only [decide_eq_false_iff_not]; exact h

set_option maxHeartbeats 400000 in
theorem within_w (a : Option Addr) (n cap : Nat) (xs : List Int) (lo hi : Int) (w : World) (h : IsL w (.slice a n cap) xs) :
    Calls Tryd.prog 30 #[.slice a n cap, .int .i64 lo, .int .i64 hi] w fun e w' => e = .returned (.bool (xs.all (inB lo hi))) ∧ w = w' := by
  obtain ⟨a', cap', hv, h1, h2, h3, h4⟩ := h
  cases hv
  unfold maxLen at h2
  go_enter Tryd.func30, Tryd.ntmps30
  go_wp2
  go_loop [11] (fun i => ∃ k : Nat, i = .int .i64 k ∧ k ≤ xs.length ∧ Hid ((xs.take k).all (inB lo hi) = true)) (fun i => xs.length - (intOf i).toNat)
  case atStart => exact ⟨0, rfl, Nat.zero_le _, hide (by simp)⟩
  case round =>
    obtain ⟨k, rfl, hk, hall⟩ := hrel
    by_cases hlt : k < xs.length
    · obtain ⟨b, off, rfl, hbl, hc⟩ := h4 (by intro h; subst h; simp at hlt)
      have hck := hc k hlt
      have hx : xs[k]?.getD 0 = xs[k] := by simp [hlt]
      rw [hx] at hck
      obtain ⟨x, hxk⟩ : ∃ x, xs[k] = x := ⟨_, rfl⟩
      rw [hxk] at hck
      clear hx hc h3
      have HX := hide hxk; clear hxk
      by_cases hr : lo ≤ x ∧ x ≤ hi
      · have HN : Hid ((xs.take (k + 1)).all (inB lo hi) = true) := by show _ = _; rw [take_all _ _ _ hlt, hall.out, HX.out, inB_t hr]; rfl
        obtain ⟨hr1, hr2⟩ := hr
        go_wp2
        go_round
        case rel => exact ⟨k + 1, by go_num, by omega, HN⟩
        case measure => simp [intOf]; omega
      · have HN : Hid (xs.all (inB lo hi) = false) := all_false _ _ k hlt (by rw [HX.out]; exact inB_f hr)
        by_cases hr1 : x < lo
        · go_wp2
          go_ret
          exact ⟨ret_bool HN.out.symm, rfl⟩
        · have hr2 : hi < x := by omega
          go_wp2
          go_ret
          exact ⟨ret_bool HN.out.symm, rfl⟩
    · have hkl : k = xs.length := by omega
      have HN : Hid (xs.all (inB lo hi) = true) := by have := hall.out; rw [List.take_of_length_le (by omega)] at this; exact this
      clear hkl
      go_wp2
      go_ret
      exact ⟨ret_bool HN.out.symm, rfl⟩
end Go.Proofs.YtfbgnnelnpcbiaaDoor

namespace Go.Proofs.YtfbgnnelnpcbiaaDoor
open Go.RowKit

def incTo (xs : List Int) (k : Nat) : Bool := (List.range k).all fun i => decide (xs[i]?.getD 0 < xs[i + 1]?.getD 0)
theorem incTo_succ (xs : List Int) (k : Nat) : incTo xs (k + 1) = (incTo xs k && decide (xs[k]?.getD 0 < xs[k + 1]?.getD 0)) := by
  unfold incTo; rw [List.range_succ, List.all_append]; simp

theorem incTo_false (xs : List Int) (k n : Nat) (hk : k < n) (h : ¬ xs[k]?.getD 0 < xs[k + 1]?.getD 0) : incTo xs n = false := by
  unfold incTo; rw [Bool.eq_false_iff]; intro h'; rw [List.all_eq_true] at h'
  have := h' k (List.mem_range.2 hk); simp at this; omega

/-- 2 to 'many' rising numbers from 0 to 'most'. -/
def rise (many most : Int) (xs : List Int) : Bool := decide (2 ≤ (xs.length : Int)) && decide ((xs.length : Int) ≤ many) && xs.all (inB 0 most) && incTo xs (xs.length - 1)
def pl (xs : List Int) : Int := if rise 9 100000 xs = true then 0 else 12

theorem rise_of {many most : Int} {xs : List Int} (h1 : 2 ≤ (xs.length : Int)) (h2 : (xs.length : Int) ≤ many) (h3 : xs.all (inB 0 most) = true) (h4 : incTo xs (xs.length - 1) = true) : rise many most xs = true := by
  unfold rise; simp [h1, h2, h3, h4]
theorem rise_not {many most : Int} {xs : List Int} (h : ¬ (2 ≤ (xs.length : Int)) ∨ ¬ ((xs.length : Int) ≤ many) ∨ xs.all (inB 0 most) = false ∨ incTo xs (xs.length - 1) = false) : rise many most xs = false := by
  unfold rise
  rcases h with h | h | h | h
  · rw [decide_eq_false h]; rfl
  · rw [decide_eq_false h]; simp
  · rw [h]; simp
  · rw [h]; simp

set_option maxHeartbeats 400000 in
theorem places_w (a : Option Addr) (n cap : Nat) (xs : List Int) (w : World) (h : IsL w (.slice a n cap) xs) :
    Calls Tryd.prog 35 #[.slice a n cap] w fun e w' => e = .returned (.int .i64 (pl xs)) ∧ Drew w w' := by
  have hw := hide (within_w a n cap xs 0 100000 w h)
  obtain ⟨a', cap', hv, hl1, hl2, h3, h4⟩ := h
  cases hv
  unfold maxLen at hl2
  by_cases h1 : (xs.length : Int) < 2
  · have HN : Hid (pl xs = 12) := by show _ = _; unfold pl; rw [rise_not (.inl (by omega))]; rfl
    go_enter Tryd.func35, Tryd.ntmps35
    go_wp2_with fail
    go_ret
    exact ⟨ret_int HN.out.symm, ⟨0, rfl⟩⟩
  by_cases h2 : (9 : Int) < xs.length
  · have HN : Hid (pl xs = 12) := by show _ = _; unfold pl; rw [rise_not (.inr (.inl (by omega)))]; rfl
    go_enter Tryd.func35, Tryd.ntmps35
    go_wp2_with fail
    go_ret
    exact ⟨ret_int HN.out.symm, ⟨0, rfl⟩⟩
  by_cases hA : xs.all (inB 0 100000) = true
  · have hA' := hide hA
    go_enter Tryd.func35, Tryd.ntmps35
    go_wp2_with (go_at_call 30; refine hw.out.mono ?_; rintro e w' ⟨rfl, rfl⟩)
    have hne : xs ≠ [] := by intro h; subst h; simp at h1
    obtain ⟨b, off, rfl, hbl, hc⟩ := h4 hne
    clear h4 h3 hne hw hA
    go_loopw [20] (fun i wr => ∃ k n : Nat, i = .int .i64 k ∧ k ≤ xs.length - 1 ∧ Hid (incTo xs k = true) ∧ wr = w.drewN n) (fun i _ => xs.length - (intOf i).toNat)
    case atStart => exact ⟨0, 0, rfl, Nat.zero_le _, hide rfl, rfl⟩
    case round =>
      obtain ⟨k, n, rfl, hk, hi, rfl⟩ := hrel
      by_cases hlt : k < xs.length - 1
      · have hc1 := hc k (by omega)
        have hc2 := hc (k + 1) (by omega)
        have hs := hide (incTo_succ xs k)
        have hfl := hide (incTo_false xs k (xs.length - 1) hlt)
        obtain ⟨x, hx⟩ : ∃ x, xs[k]?.getD 0 = x := ⟨_, rfl⟩
        obtain ⟨y, hy⟩ : ∃ y, xs[k + 1]?.getD 0 = y := ⟨_, rfl⟩
        rw [hx] at hc1 hs hfl
        rw [hy] at hc2 hs hfl
        clear hx hy hc
        have hl3 : (k : Int) < xs.length - 1 := by omega
        have hl4 : (k : Int) < xs.length := by omega
        have hl5 : (k : Int) + 1 < xs.length := by omega
        by_cases hxy : x < y
        · go_wp2
          go_quiet (fail)
          go_wp2
          go_roundw
          case rel => exact ⟨k + 1, _, by go_num, by omega, hide (by rw [hs.out, hi.out]; simp [hxy]), (by first | rfl | exact World.drewN_drewN _ _ _)⟩
          case measure => simp [intOf]; omega
        · have HN : Hid (pl xs = 12) := by show _ = _; unfold pl; rw [rise_not (.inr (.inr (.inr (hfl.out hxy))))]; rfl
          go_wp2
          go_quiet (fail)
          go_wp2
          go_ret
          exact ⟨ret_int HN.out.symm, (by first | exact ⟨_, rfl⟩ | exact ⟨_, World.drewN_drewN _ _ _⟩)⟩
      · have HN : Hid (pl xs = 0) := by
          show _ = _; unfold pl; rw [rise_of (by omega) (by omega) hA'.out (by have := hi.out; rw [show k = xs.length - 1 by omega] at this; exact this)]; rfl
        have hl3 : ¬ ((k : Int) < xs.length - 1) := by omega
        go_wp2
        go_ret
        exact ⟨ret_int HN.out.symm, ⟨n, rfl⟩⟩
  · have hA' : xs.all (inB 0 100000) = false := by simpa using hA
    have HN : Hid (pl xs = 12) := by show _ = _; unfold pl; rw [rise_not (.inr (.inr (.inl hA')))]; rfl
    clear hA
    go_enter Tryd.func35, Tryd.ntmps35
    go_wp2_with (go_at_call 30; refine hw.out.mono ?_; rintro e w' ⟨rfl, rfl⟩)
    go_ret
    exact ⟨ret_int HN.out.symm, ⟨0, rfl⟩⟩

set_option maxHeartbeats 400000 in
theorem rising_w (a : Option Addr) (n cap : Nat) (xs : List Int) (many most : Int) (w : World) (h : IsL w (.slice a n cap) xs) :
    Calls Tryd.prog 37 #[.slice a n cap, .int .i64 many, .int .i64 most] w fun e w' => e = .returned (.bool (rise many most xs)) ∧ Drew w w' := by
  obtain ⟨a', cap', hv, hl1, hl2, h3, h4⟩ := h
  cases hv
  unfold maxLen at hl2
  by_cases h1 : (xs.length : Int) < 2
  · have HN : Hid (rise many most xs = false) := rise_not (.inl (by omega))
    go_enter Tryd.func37, Tryd.ntmps37
    go_wp2_with fail
    go_ret
    exact ⟨ret_bool HN.out.symm, ⟨0, rfl⟩⟩
  by_cases h2 : many < (xs.length : Int)
  · have HN : Hid (rise many most xs = false) := rise_not (.inr (.inl (by omega)))
    go_enter Tryd.func37, Tryd.ntmps37
    go_wp2_with fail
    go_ret
    exact ⟨ret_bool HN.out.symm, ⟨0, rfl⟩⟩
  · have hne : xs ≠ [] := by intro h; subst h; simp at h1
    obtain ⟨b, off, rfl, hbl, hc⟩ := h4 hne
    clear h4 h3 hne
    go_enter Tryd.func37, Tryd.ntmps37
    go_wp2
    go_loopw [7] (fun i wr => ∃ k n : Nat, i = .int .i64 k ∧ k ≤ xs.length ∧ Hid ((xs.take k).all (inB 0 most) = true) ∧ Hid (incTo xs (k - 1) = true) ∧ wr = w.drewN n) (fun i _ => xs.length - (intOf i).toNat)
    case atStart => exact ⟨0, 0, rfl, Nat.zero_le _, hide (by simp), hide rfl, rfl⟩
    case round =>
      obtain ⟨k, n, rfl, hk, ha, hi, rfl⟩ := hrel
      by_cases hlt : k < xs.length
      · have hc1 := hc k hlt
        have hx : xs[k]?.getD 0 = xs[k] := by simp [hlt]
        have hta := hide (take_all (inB 0 most) xs k hlt)
        have htf := hide (all_false (inB 0 most) xs k hlt)
        obtain ⟨x, hxk⟩ : ∃ x, xs[k] = x := ⟨_, rfl⟩
        rw [hx, hxk] at hc1
        rw [hxk] at hx hta htf
        have hl4 : (k : Int) < xs.length := by omega
        by_cases hx0 : x < 0
        · have d1 : decide (x < 0) = true := by simpa using hx0
          have HN : Hid (rise many most xs = false) := rise_not (.inr (.inr (.inl (htf.out (inB_f (by omega))))))
          clear hx hxk hc
          go_wp2
          go_quiet (fail)
          go_wp2
          go_ret
          exact ⟨ret_bool HN.out.symm, (by first | exact ⟨_, rfl⟩ | exact ⟨_, World.drewN_drewN _ _ _⟩)⟩
        have d1 : decide (x < 0) = false := by simpa using hx0
        by_cases hxm : most < x
        · have d2 : decide (most < x) = true := by simpa using hxm
          have HN : Hid (rise many most xs = false) := rise_not (.inr (.inr (.inl (htf.out (inB_f (by omega))))))
          clear hx hxk hc
          go_wp2
          go_quiet (fail)
          go_wp2
          go_ret
          exact ⟨ret_bool HN.out.symm, (by first | exact ⟨_, rfl⟩ | exact ⟨_, World.drewN_drewN _ _ _⟩)⟩
        have d2 : decide (most < x) = false := by simpa using hxm
        have hB : Hid ((xs.take (k + 1)).all (inB 0 most) = true) := by show _ = _; rw [hta.out, ha.out, inB_t (by omega)]; rfl
        by_cases hk0 : k = 0
        · subst hk0
          simp only [Nat.add_zero] at hc1
          have hp : (0 : Int) < (xs.length : Int) := by omega
          clear hx hxk hc
          go_wp2
          go_quiet (fail)
          go_wp2
          go_roundw
          case rel => exact ⟨1, _, rfl, by omega, hB, hide rfl, (by first | rfl | exact World.drewN_drewN _ _ _)⟩
          case measure => simp [intOf]; omega
        · obtain ⟨j, rfl⟩ : ∃ j, k = j + 1 := ⟨k - 1, by omega⟩
          have hc2 := hc j (by omega)
          have hs := incTo_succ xs j
          rw [hx] at hs
          have hfl := incTo_false xs j (xs.length - 1) (by omega)
          rw [hx] at hfl
          obtain ⟨y, hy⟩ : ∃ y, xs[j]?.getD 0 = y := ⟨_, rfl⟩
          rw [hy] at hc2 hs hfl
          have HS := hide hs; have HF := hide hfl
          clear hx hxk hc hy hs hfl hk0
          simp only [Int.natCast_add, Int.cast_ofNat_Int] at hl4 ⊢
          have d3 : decide ((0 : Int) < (j : Int) + 1) = true := decide_eq_true (by omega)
          have hj1 : (j : Int) < xs.length := by omega
          have w1 : IntKind.i64.wrap ((j : Int) + 1 - 1) = (j : Int) := by rw [show (j : Int) + 1 - 1 = j by omega]; exact IntWalk.i64_in _ (by omega)
          by_cases hxy : y < x
          · have d4 : decide (x ≤ y) = false := by simp; omega
            go_wp2
            go_quiet (fail)
            go_wp2
            go_roundw
            case rel => exact ⟨j + 1 + 1, _, by go_num, by omega, hB, hide (by have hi' : incTo xs j = true := hi.out; show incTo xs (j + 1) = true; rw [HS.out, hi']; simp [hxy]), (by first | rfl | exact World.drewN_drewN _ _ _)⟩
            case measure => simp [intOf]; omega
          · have d4 : decide (x ≤ y) = true := by simp; omega
            have HN : Hid (rise many most xs = false) := rise_not (.inr (.inr (.inr (HF.out hxy))))
            go_wp2
            go_quiet (fail)
            go_wp2
            go_ret
            exact ⟨ret_bool HN.out.symm, (by first | exact ⟨_, rfl⟩ | exact ⟨_, World.drewN_drewN _ _ _⟩)⟩
      · have HN : Hid (rise many most xs = true) := by
          have hkl : k = xs.length := by omega
          subst hkl
          exact rise_of (by omega) (by omega) (by have := ha.out; rw [List.take_length] at this; exact this) hi.out
        have hl4 : ¬ ((k : Int) < xs.length) := by omega
        go_wp2
        go_ret
        exact ⟨ret_bool HN.out.symm, ⟨n, rfl⟩⟩

end Go.Proofs.YtfbgnnelnpcbiaaDoor
