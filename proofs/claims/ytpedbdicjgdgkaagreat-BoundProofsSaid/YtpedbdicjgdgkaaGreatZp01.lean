import Derived.Test.YtpedbdicjgdgkaaGreatProg
import Derived.WalkKit
import Derived.WalkSpells
import Derived.WalkLawsBesides
import Derived.IntWalk
import Derived.Deep.QuietTactic
import Derived.BigQuiet
import Derived.Outline
set_option linter.unusedVariables false
set_option linter.unusedSimpArgs false
namespace Go.Proofs.YtpedbdicjgdgkaaGreat
open Go.RowKit

theorem ret_int {k : IntKind} {a b : Int} (h : a = b) : Ending.returned (.int k a) = .returned (.int k b) := by rw [h]

theorem size_neg (n : Int) (h1 : -9223372036854775808 ≤ n) (h : n < 0) : IntKind.u64.wrap (-IntKind.u64.wrap n) = (n.natAbs : Int) := by
  simp only [IntKind.wrap, IntKind.signed, IntKind.bits]
  simp
  omega

theorem hide {p : Prop} (h : p) : Hid p := h

def Drew (w w' : World) : Prop := ∃ n, w' = w.drewN n

/-- The fraction n / d in lowest terms, d above 0 or below; the error and the zero fraction otherwise. -/
def mk (n d : Int) : Int × Int × Int :=
  if d = 0 then (0, 0, 11)
  else if 1000000000 < n.natAbs / Nat.gcd n.natAbs d.natAbs ∨ 1000000000 < d.natAbs / Nat.gcd n.natAbs d.natAbs then (0, 0, 4)
  else if n < 0 ∧ 0 < d ∨ 0 ≤ n ∧ d < 0 then (-((n.natAbs / Nat.gcd n.natAbs d.natAbs : Nat) : Int), (d.natAbs / Nat.gcd n.natAbs d.natAbs : Nat), 0)
  else ((n.natAbs / Nat.gcd n.natAbs d.natAbs : Nat), (d.natAbs / Nat.gcd n.natAbs d.natAbs : Nat), 0)

def frac (x : Int × Int × Int) : Value := .tuple #[.agg #[.int .i64 x.1, .int .i64 x.2.1], .int .i64 x.2.2]

theorem mk_big {n d : Int} {a b g p q : Nat} (h0 : ¬ d = 0) (ha : n.natAbs = a) (hb : d.natAbs = b) (hg : Nat.gcd a b = g) (hp : a / g = p) (hq : b / g = q)
    (h : (1000000000 : Int) < p ∨ (1000000000 : Int) < q) : mk n d = (0, 0, 4) := by
  unfold mk
  rw [if_neg h0, ha, hb, hg, hp, hq, if_pos (by omega)]

theorem mk_neg {n d : Int} {a b g p q : Nat} (h0 : ¬ d = 0) (ha : n.natAbs = a) (hb : d.natAbs = b) (hg : Nat.gcd a b = g) (hp : a / g = p) (hq : b / g = q)
    (h : (p : Int) ≤ 1000000000 ∧ (q : Int) ≤ 1000000000) (hs : (!decide (n < 0) == decide (d < 0)) = true) : mk n d = (-(p : Int), (q : Int), 0) := by
  unfold mk
  rw [if_neg h0, ha, hb, hg, hp, hq, if_neg (by omega), if_pos]
  simp at hs; omega

theorem mk_pos {n d : Int} {a b g p q : Nat} (h0 : ¬ d = 0) (ha : n.natAbs = a) (hb : d.natAbs = b) (hg : Nat.gcd a b = g) (hp : a / g = p) (hq : b / g = q)
    (h : (p : Int) ≤ 1000000000 ∧ (q : Int) ≤ 1000000000) (hs : (!decide (n < 0) == decide (d < 0)) = false) : mk n d = ((p : Int), (q : Int), 0) := by
  unfold mk
  rw [if_neg h0, ha, hb, hg, hp, hq, if_neg (by omega), if_neg]
  simp at hs; omega

def chk (n d : Int) : Int := if -1000000000 ≤ n ∧ n ≤ 1000000000 ∧ 1 ≤ d ∧ d ≤ 1000000000 ∧ Nat.gcd n.natAbs d.natAbs = 1 then 0 else 10

theorem mk_bd (n d : Int) : -1000000000 ≤ (mk n d).1 ∧ (mk n d).1 ≤ 1000000000 ∧ 0 ≤ (mk n d).2.1 ∧ (mk n d).2.1 ≤ 1000000000 ∧ ((mk n d).2.2 = 0 ∨ (mk n d).2.2 = 4 ∨ (mk n d).2.2 = 11) := by
  unfold mk
  generalize n.natAbs / Nat.gcd n.natAbs d.natAbs = p
  generalize d.natAbs / Nat.gcd n.natAbs d.natAbs = q
  split
  · simp
  · split
    · simp
    · rename_i h; split <;> (refine ⟨?_, ?_, ?_, ?_, .inl rfl⟩ <;> (show _ ≤ (_ : Int)) <;> simp only [] <;> omega)

theorem chk_of_mk (n d : Int) : chk n d = if (mk n d).2.2 = 0 ∧ (mk n d).1 = n ∧ (mk n d).2.1 = d then 0 else 10 := by
  unfold chk
  by_cases hv : -1000000000 ≤ n ∧ n ≤ 1000000000 ∧ 1 ≤ d ∧ d ≤ 1000000000 ∧ Nat.gcd n.natAbs d.natAbs = 1
  · rw [if_pos hv]
    obtain ⟨h1, h2, h3, h4, h5⟩ := hv
    have e : mk n d = (n, d, 0) := by
      unfold mk
      rw [if_neg (by omega), h5, Nat.div_one, Nat.div_one, if_neg (by omega)]
      split
      · rename_i h; have : -(n.natAbs : Int) = n := by omega
        have hd : (d.natAbs : Int) = d := by omega
        rw [this, hd]
      · rename_i h; have : (n.natAbs : Int) = n := by omega
        have hd : (d.natAbs : Int) = d := by omega
        rw [this, hd]
    rw [e]; simp
  · rw [if_neg hv]
    have hb := mk_bd n d
    rw [if_neg]
    rintro ⟨h0, h1, h2⟩
    rw [h1, h2] at hb
    apply hv
    have hd : d ≠ 0 := by
      intro h; subst h; unfold mk at h0; simp at h0
    refine ⟨hb.1, hb.2.1, by omega, hb.2.2.2.1, ?_⟩
    have hg : 0 < Nat.gcd n.natAbs d.natAbs := Nat.gcd_pos_of_pos_right _ (by omega)
    unfold mk at h0 h2
    rw [if_neg hd] at h0 h2
    split at h0
    · simp at h0
    · rename_i hx
      rw [if_neg hx] at h2
      have hq : (d.natAbs / Nat.gcd n.natAbs d.natAbs : Nat) = d.natAbs := by
        split at h2 <;> (simp at h2; omega)
      have hm := Nat.div_mul_cancel (Nat.gcd_dvd_right n.natAbs d.natAbs)
      rw [hq] at hm
      have : d.natAbs * Nat.gcd n.natAbs d.natAbs = d.natAbs * 1 := by rw [hm, Nat.mul_one]
      exact Nat.eq_of_mul_eq_mul_left (by omega) this
end Go.Proofs.YtpedbdicjgdgkaaGreat

namespace Go.Proofs.YtpedbdicjgdgkaaGreat
open Go.RowKit

theorem bcell {W w1 : World} (hb : Below W.heap.size W w1) : (∀ b o, b < W.heap.size → w1.cell? ⟨b, o, none⟩ = W.cell? ⟨b, o, none⟩) ∧ (∀ b o, b < W.heap.size → w1.frozen? ⟨b, o, none⟩ = W.frozen? ⟨b, o, none⟩) :=
  ⟨fun b o h => hb.cell (p := ⟨b, o, none⟩) h, fun b o h => hb.frozen (p := ⟨b, o, none⟩) h⟩

theorem back {W w1 w : World} (h1 : Below w.heap.size w W) (hb : Below W.heap.size W w1) : Below w.heap.size w w1 := h1.trans (hb.mono h1.size)

def FB (n : Int) : Prop := -9223372036854775808 ≤ n ∧ n ≤ 9223372036854775807

theorem chk_r (n d : Int) (h : ¬ (n < -1000000000 ∨ 1000000000 < n ∨ d < 1 ∨ 1000000000 < d)) : chk n d = if Nat.gcd n.natAbs d.natAbs = 1 then 0 else 10 := by
  unfold chk
  split
  · rename_i h'; rw [if_pos h'.2.2.2.2]
  · rename_i h'; rw [if_neg]; intro hg; exact h' ⟨by omega, by omega, by omega, by omega, hg⟩

theorem chk_out (n d : Int) (h : n < -1000000000 ∨ 1000000000 < n ∨ d < 1 ∨ 1000000000 < d) : chk n d = 10 := by
  unfold chk; rw [if_neg]; omega

theorem chk_or (n d : Int) : chk n d = 0 ∨ chk n d = 10 := by unfold chk; split <;> simp

def chk2 (an ad bn bd : Int) : Int := if chk an ad = 0 ∧ chk bn bd = 0 then 0 else 10
theorem chk2_or (an ad bn bd : Int) : chk2 an ad bn bd = 0 ∨ chk2 an ad bn bd = 10 := by unfold chk2; split <;> simp

end Go.Proofs.YtpedbdicjgdgkaaGreat

namespace Go.Proofs.YtpedbdicjgdgkaaGreat
open Go.RowKit

/-- A calculation with two fractions: the error of both, or n / d in lowest terms. -/
def opF (an ad bn bd n d : Int) : Int × Int × Int := if chk2 an ad bn bd = 0 then mk n d else (0, 0, 10)

theorem chk_bd {n d : Int} (h : chk n d = 0) : -1000000000 ≤ n ∧ n ≤ 1000000000 ∧ 1 ≤ d ∧ d ≤ 1000000000 := by
  unfold chk at h; split at h
  · omega
  · simp at h

theorem mul_bd {x y : Int} (hx : -1000000000 ≤ x ∧ x ≤ 1000000000) (hy : -1000000000 ≤ y ∧ y ≤ 1000000000) : -1000000000000000000 ≤ x * y ∧ x * y ≤ 1000000000000000000 := by
  have h1 : (1000000000 - x) * (1000000000 + y) ≥ 0 := Int.mul_nonneg (by omega) (by omega)
  have h2 : (1000000000 + x) * (1000000000 - y) ≥ 0 := Int.mul_nonneg (by omega) (by omega)
  have h3 : (1000000000 + x) * (1000000000 + y) ≥ 0 := Int.mul_nonneg (by omega) (by omega)
  have h4 : (1000000000 - x) * (1000000000 - y) ≥ 0 := Int.mul_nonneg (by omega) (by omega)
  simp only [Int.sub_mul, Int.add_mul, Int.mul_sub, Int.mul_add] at h1 h2 h3 h4
  omega

theorem chk2_zero {an ad bn bd : Int} (h : chk2 an ad bn bd = 0) : chk an ad = 0 ∧ chk bn bd = 0 := by
  unfold chk2 at h; split at h
  · assumption
  · simp at h

end Go.Proofs.YtpedbdicjgdgkaaGreat

namespace Go.Proofs.YtpedbdicjgdgkaaGreat
open Go.RowKit

def cmpF (an ad bn bd : Int) : Int := if chk2 an ad bn bd = 0 then (if an * bd < bn * ad then -1 else if bn * ad < an * bd then 1 else 0) else 0

/-- Two fractions in lowest terms with one value are one. -/
theorem chk_eq {an ad bn bd : Int} (h1 : chk an ad = 0) (h2 : chk bn bd = 0) (h : an * bd = bn * ad) : an = bn ∧ ad = bd := by
  have v : ∀ n d : Int, chk n d = 0 → 1 ≤ d ∧ Nat.gcd n.natAbs d.natAbs = 1 := by
    intro n d h; unfold chk at h; split at h
    · rename_i h'; exact ⟨h'.2.2.1, h'.2.2.2.2⟩
    · simp at h
  obtain ⟨a1, a2⟩ := v _ _ h1
  obtain ⟨b1, b2⟩ := v _ _ h2
  have hn : an.natAbs * bd.natAbs = bn.natAbs * ad.natAbs := by rw [← Int.natAbs_mul, ← Int.natAbs_mul, h]
  have d1 : ad.natAbs ∣ bd.natAbs := by
    have : ad.natAbs ∣ an.natAbs * bd.natAbs := ⟨bn.natAbs, by rw [hn, Nat.mul_comm]⟩
    exact Nat.Coprime.dvd_of_dvd_mul_left (Nat.Coprime.symm a2) this
  have d2 : bd.natAbs ∣ ad.natAbs := by
    have : bd.natAbs ∣ bn.natAbs * ad.natAbs := ⟨an.natAbs, by rw [← hn, Nat.mul_comm]⟩
    exact Nat.Coprime.dvd_of_dvd_mul_left (Nat.Coprime.symm b2) this
  have hd : ad = bd := by have := Nat.dvd_antisymm d1 d2; omega
  subst hd
  exact ⟨Int.eq_of_mul_eq_mul_right (by omega) h, rfl⟩

/-- n / d rounded down, for d above 0. -/
def flo (n d : Int) : Int := n / d

theorem tdiv_neg {n d : Int} (hd : 0 < d) (h : n.tmod d < 0) : n.tdiv d - 1 = n / d := by
  have h1 := Int.tmod_add_mul_tdiv n d
  have h2 := Int.emod_add_mul_ediv n d
  have h3 := Int.emod_nonneg n (show d ≠ 0 by omega)
  have h4 := Int.emod_lt_of_pos n hd
  have h5 := Int.lt_tmod_of_pos n hd
  have : d * (n.tdiv d - 1 - n / d) = n % d - n.tmod d - d := by
    rw [Int.mul_sub, Int.mul_sub]; omega
  have h6 : d * (n.tdiv d - 1 - n / d) < d * 1 := by omega
  have h7 : d * (-1) < d * (n.tdiv d - 1 - n / d) := by omega
  have h8 := Int.lt_of_mul_lt_mul_left h6 (by omega)
  have h9 := Int.lt_of_mul_lt_mul_left h7 (by omega)
  omega

theorem tdiv_pos {n d : Int} (hd : 0 < d) (h : 0 ≤ n.tmod d) : n.tdiv d = n / d := by
  have h1 := Int.tmod_add_mul_tdiv n d
  have h2 := Int.emod_add_mul_ediv n d
  have h3 := Int.emod_nonneg n (show d ≠ 0 by omega)
  have h4 := Int.emod_lt_of_pos n hd
  have h5 := Int.tmod_lt_of_pos n hd
  have : d * (n.tdiv d - n / d) = n % d - n.tmod d := by
    rw [Int.mul_sub]; omega
  have h6 : d * (n.tdiv d - n / d) < d * 1 := by omega
  have h7 : d * (-1) < d * (n.tdiv d - n / d) := by omega
  have h8 := Int.lt_of_mul_lt_mul_left h6 (by omega)
  have h9 := Int.lt_of_mul_lt_mul_left h7 (by omega)
  omega

theorem tdiv_bd {n d : Int} (hd : 0 < d) : (0 ≤ n → 0 ≤ n.tdiv d ∧ n.tdiv d ≤ n) ∧ (n ≤ 0 → n ≤ n.tdiv d ∧ n.tdiv d ≤ 0) := by
  constructor
  · intro h
    exact ⟨Int.tdiv_nonneg h (by omega), by rw [Int.tdiv_eq_ediv_of_nonneg h]; exact Int.ediv_le_self _ h⟩
  · intro h
    have e : n.tdiv d = -((-n).tdiv d) := by rw [Int.neg_tdiv]; omega
    have h1 := Int.tdiv_nonneg (show 0 ≤ -n by omega) (show 0 ≤ d by omega)
    have h2 : (-n).tdiv d ≤ -n := by rw [Int.tdiv_eq_ediv_of_nonneg (by omega)]; exact Int.ediv_le_self _ (by omega)
    omega

theorem flo_bd {n d : Int} (hd : 0 < d) (h1 : -5000000000 ≤ n) (h2 : n ≤ 5000000000) : -5000000000 ≤ flo n d ∧ flo n d ≤ 5000000000 := by
  unfold flo
  have := Int.emod_add_mul_ediv n d
  have h3 := Int.emod_nonneg n (show d ≠ 0 by omega)
  have h4 := Int.emod_lt_of_pos n hd
  constructor
  · refine (Int.le_ediv_iff_mul_le hd).2 ?_
    have : 5000000000 * (d - 1) ≥ 0 := Int.mul_nonneg (by omega) (by omega)
    omega
  · refine Int.le_of_lt_add_one ((Int.ediv_lt_iff_lt_mul hd).2 ?_)
    have : 5000000000 * (d - 1) ≥ 0 := Int.mul_nonneg (by omega) (by omega)
    omega

end Go.Proofs.YtpedbdicjgdgkaaGreat

namespace Go.Proofs.YtpedbdicjgdgkaaGreat
open Go.RowKit

/-- The slice value v reads as the integers xs (kind int); its cells lie below block number B. -/
def IsLB (B : Nat) (w : World) (v : Value) (xs : List Int) : Prop :=
  ∃ a cap, v = .slice a xs.length cap ∧ xs.length ≤ cap ∧ cap ≤ maxLen ∧ (∀ x ∈ xs, FB x) ∧
    (xs ≠ [] → ∃ b off, a = some ⟨b, off, none⟩ ∧ b < B ∧ ∀ i, i < xs.length → w.cell? ⟨b, off + i, none⟩ = some (.int .i64 (xs[i]?.getD 0)))

def IsL (w : World) (v : Value) (xs : List Int) : Prop := IsLB w.heap.size w v xs

theorem IsLB.keep {B : Nat} {w w' : World} {v : Value} {xs : List Int} (h : IsLB B w v xs) (hk : ∀ p : Addr, p.block < B → w'.cell? p = w.cell? p) : IsLB B w' v xs := by
  obtain ⟨a, cap, hv, h1, h2, h3, h4⟩ := h
  refine ⟨a, cap, hv, h1, h2, h3, fun hne => ?_⟩
  obtain ⟨b, off, ha, hlt, hc⟩ := h4 hne
  exact ⟨b, off, ha, hlt, fun i hi => by rw [hk ⟨b, off + i, none⟩ hlt]; exact hc i hi⟩

theorem IsLB.more {B B' : Nat} {w : World} {v : Value} {xs : List Int} (h : IsLB B w v xs) (hB : B ≤ B') : IsLB B' w v xs := by
  obtain ⟨a, cap, hv, h1, h2, h3, h4⟩ := h
  refine ⟨a, cap, hv, h1, h2, h3, fun hne => ?_⟩
  obtain ⟨b, off, ha, hlt, hc⟩ := h4 hne
  exact ⟨b, off, ha, by omega, hc⟩

theorem IsLB.below {B : Nat} {w w' : World} {v : Value} {xs : List Int} (h : IsLB B w v xs) (hb : Below B w w') : IsLB B w' v xs := h.keep fun _ hp => hb.cell hp
theorem IsLB.drewN {B : Nat} {w : World} {v : Value} {xs : List Int} (h : IsLB B w v xs) (n : Nat) : IsLB B (w.drewN n) v xs := h
theorem IsL.drewN {w : World} {v : Value} {xs : List Int} (h : IsL w v xs) (n : Nat) : IsL (w.drewN n) v xs := h
theorem IsLB.isL {B : Nat} {w : World} {v : Value} {xs : List Int} (h : IsLB B w v xs) (hB : B ≤ w.heap.size) : IsL w v xs := h.more hB
theorem IsL.below {w w' : World} {v : Value} {xs : List Int} (h : IsL w v xs) (hb : Below w.heap.size w w') : IsL w' v xs := IsLB.isL (IsLB.below h hb) hb.size

theorem take_all {α : Type} (p : α → Bool) (xs : List α) (k : Nat) (h : k < xs.length) : (xs.take (k + 1)).all p = ((xs.take k).all p && p xs[k]) := by
  rw [List.take_succ_eq_append_getElem h, List.all_append]; simp

theorem all_false {α : Type} (p : α → Bool) (xs : List α) (k : Nat) (h : k < xs.length) (hp : p xs[k] = false) : xs.all p = false := by
  rw [Bool.eq_false_iff]; intro h'; rw [List.all_eq_true] at h'; have := h' _ (List.getElem_mem h); rw [hp] at this; cases this

theorem ret_bool {a b : Bool} (h : a = b) : Ending.returned (.bool a) = .returned (.bool b) := by rw [h]

def inB (lo hi x : Int) : Bool := decide (lo ≤ x ∧ x ≤ hi)
theorem inB_t {lo hi x : Int} (h : lo ≤ x ∧ x ≤ hi) : inB lo hi x = true := by simp [inB, h]
theorem inB_f {lo hi x : Int} (h : ¬ (lo ≤ x ∧ x ≤ hi)) : inB lo hi x = false := by unfold inB; simp only [decide_eq_false_iff_not]; exact h

end Go.Proofs.YtpedbdicjgdgkaaGreat

/- Limits, as lists; whether one is valid. -/
namespace Go.Proofs.YtpedbdicjgdgkaaGreat
open Go Go.RowKit

structure Lm where
  a : Int
  b : Int
  m : Int
  y : Int
instance : Inhabited Lm := ⟨⟨0, 0, 0, 0⟩⟩
def FL (l : Lm) : Prop := FB l.a ∧ FB l.b ∧ FB l.m ∧ FB l.y
def lmAt (ls : List Lm) (i : Nat) : Lm := ls[i]?.getD default
def LmC (w : World) (b o : Nat) (l : Lm) : Prop :=
  w.cell? ⟨b, o, none⟩ = some (.int .i64 l.a) ∧ w.cell? ⟨b, o + 1, none⟩ = some (.int .i64 l.b) ∧ w.cell? ⟨b, o + 2, none⟩ = some (.int .i64 l.m) ∧ w.cell? ⟨b, o + 3, none⟩ = some (.int .i64 l.y)
/-- The slice value v reads as the limits ls; its cells lie below block number B. -/
def IsSB (B : Nat) (w : World) (v : Value) (ls : List Lm) : Prop :=
  ∃ a cap, v = .slice a ls.length cap ∧ ls.length ≤ cap ∧ cap ≤ maxLen ∧ (∀ l ∈ ls, FL l) ∧
    (ls ≠ [] → ∃ b off, a = some ⟨b, off, none⟩ ∧ b < B ∧ ∀ i, i < ls.length → LmC w b (off + i * 4) (lmAt ls i))
def IsS (w : World) (v : Value) (ls : List Lm) : Prop := IsSB w.heap.size w v ls

theorem IsSB.keep {B : Nat} {w w' : World} {v : Value} {ls : List Lm} (h : IsSB B w v ls) (hk : ∀ p : Addr, p.block < B → w'.cell? p = w.cell? p) : IsSB B w' v ls := by
  obtain ⟨a, cap, hv, h1, h2, h3, h4⟩ := h
  refine ⟨a, cap, hv, h1, h2, h3, fun hne => ?_⟩
  obtain ⟨b, off, ha, hlt, hc⟩ := h4 hne
  refine ⟨b, off, ha, hlt, fun i hi => ?_⟩
  obtain ⟨c1, c2, c3, c4⟩ := hc i hi
  exact ⟨by rw [hk ⟨b, _, none⟩ hlt]; exact c1, by rw [hk ⟨b, _, none⟩ hlt]; exact c2, by rw [hk ⟨b, _, none⟩ hlt]; exact c3, by rw [hk ⟨b, _, none⟩ hlt]; exact c4⟩
theorem IsSB.more {B B' : Nat} {w : World} {v : Value} {ls : List Lm} (h : IsSB B w v ls) (hB : B ≤ B') : IsSB B' w v ls := by
  obtain ⟨a, cap, hv, h1, h2, h3, h4⟩ := h
  refine ⟨a, cap, hv, h1, h2, h3, fun hne => ?_⟩
  obtain ⟨b, off, ha, hlt, hc⟩ := h4 hne
  exact ⟨b, off, ha, by omega, hc⟩
theorem IsSB.below {B : Nat} {w w' : World} {v : Value} {ls : List Lm} (h : IsSB B w v ls) (hb : Below B w w') : IsSB B w' v ls := h.keep fun _ hp => hb.cell hp
theorem IsS.below {w w' : World} {v : Value} {ls : List Lm} (h : IsS w v ls) (hb : Below w.heap.size w w') : IsS w' v ls := (IsSB.below h hb).more hb.size
theorem IsS.drewN {w : World} {v : Value} {ls : List Lm} (h : IsS w v ls) (n : Nat) : IsS (w.drewN n) v ls := h
theorem lmAt_FL {ls : List Lm} (h : ∀ l ∈ ls, FL l) {i : Nat} (hi : i < ls.length) : FL (lmAt ls i) := by
  have : lmAt ls i = ls[i] := by simp [lmAt, hi]
  rw [this]
  exact h _ (List.getElem_mem hi)

/-- Whether a limit is valid: 0, or the error's number. -/
def ckL (many : Int) (l : Lm) : Int := if inB 0 64 many && inB 0 many l.a && inB 0 many l.b && decide (l.a ≠ l.b) && inB (-20000) 20000 l.m && inB 1 99999 l.y then 0 else 20

set_option maxHeartbeats 400000 in
theorem inside_w {n lo hi : Int} {b : Bool} (h : inB lo hi n = b) (w : World) :
    Calls Tryz.prog 63 #[.int .i64 n, .int .i64 lo, .int .i64 hi] w fun e w' => e = .returned (.bool b) ∧ w = w' := by
  subst h
  by_cases h1 : lo ≤ n
  · by_cases h2 : n ≤ hi
    · have HI := hide (inB_t ⟨h1, h2⟩)
      go_enter Tryz.func63, Tryz.ntmps63
      go_wp2
      go_ret
      exact ⟨ret_bool HI.out.symm, rfl⟩
    · have HI := hide (inB_f (lo := lo) (hi := hi) (x := n) (fun h => h2 h.2))
      go_enter Tryz.func63, Tryz.ntmps63
      go_wp2
      go_ret
      exact ⟨ret_bool HI.out.symm, rfl⟩
  · have HI := hide (inB_f (lo := lo) (hi := hi) (x := n) (fun h => h1 h.1))
    go_enter Tryz.func63, Tryz.ntmps63
    go_wp2
    go_ret
    exact ⟨ret_bool HI.out.symm, rfl⟩
set_option maxHeartbeats 400000 in
theorem rwithin_w {n lo hi : Int} {b : Bool} (h : inB lo hi n = b) (w : World) :
    Calls Tryz.prog 64 #[.int .i64 n, .int .i64 lo, .int .i64 hi] w fun e w' => e = .returned (.bool b) ∧ w = w' := by
  subst h
  by_cases h1 : lo ≤ n
  · by_cases h2 : n ≤ hi
    · have HI := hide (inB_t ⟨h1, h2⟩)
      go_enter Tryz.func64, Tryz.ntmps64
      go_wp2
      go_ret
      exact ⟨ret_bool HI.out.symm, rfl⟩
    · have HI := hide (inB_f (lo := lo) (hi := hi) (x := n) (fun h => h2 h.2))
      go_enter Tryz.func64, Tryz.ntmps64
      go_wp2
      go_ret
      exact ⟨ret_bool HI.out.symm, rfl⟩
  · have HI := hide (inB_f (lo := lo) (hi := hi) (x := n) (fun h => h1 h.1))
    go_enter Tryz.func64, Tryz.ntmps64
    go_wp2
    go_ret
    exact ⟨ret_bool HI.out.symm, rfl⟩
end Go.Proofs.YtpedbdicjgdgkaaGreat

/- Whether a limit is valid: both sides. -/
namespace Go.Proofs.YtpedbdicjgdgkaaGreat
open Go Go.RowKit

/-- One limit, its six tests as they come out. -/
def ckB (b1 b2 b3 b4 b5 b6 : Bool) : Int := if b1 && b2 && b3 && b4 && b5 && b6 then 0 else 20
theorem ckL_eq (many : Int) (l : Lm) : ckL many l = ckB (inB 0 64 many) (inB 0 many l.a) (inB 0 many l.b) (decide (l.a ≠ l.b)) (inB (-20000) 20000 l.m) (inB 1 99999 l.y) := rfl
set_option maxRecDepth 100000 in
set_option maxHeartbeats 4000000 in
theorem ck_walk (many a b m y : Int) (b1 b2 b3 b5 b6 : Bool) (w : World)
    (c1 : ∀ w, Hid (Calls Tryz.prog 63 #[.int .i64 many, .int .i64 0, .int .i64 64] w fun e w' => e = .returned (.bool b1) ∧ w = w'))
    (c2 : ∀ w, Hid (Calls Tryz.prog 63 #[.int .i64 a, .int .i64 0, .int .i64 many] w fun e w' => e = .returned (.bool b2) ∧ w = w'))
    (c3 : ∀ w, Hid (Calls Tryz.prog 63 #[.int .i64 b, .int .i64 0, .int .i64 many] w fun e w' => e = .returned (.bool b3) ∧ w = w'))
    (c5 : ∀ w, Hid (Calls Tryz.prog 63 #[.int .i64 m, .int .i64 (-20000), .int .i64 20000] w fun e w' => e = .returned (.bool b5) ∧ w = w'))
    (c6 : ∀ w, Hid (Calls Tryz.prog 63 #[.int .i64 y, .int .i64 1, .int .i64 99999] w fun e w' => e = .returned (.bool b6) ∧ w = w')) :
    Calls Tryz.prog 13 #[.int .i64 many, .agg #[.int .i64 a, .int .i64 b, .int .i64 m, .int .i64 y]] w fun e w' => e = .returned (.int .i64 (ckB b1 b2 b3 (decide (a ≠ b)) b5 b6)) ∧ Below w.heap.size w w' := by
  cases b1
  · have HR : Hid (ckB false b2 b3 (decide (a ≠ b)) b5 b6 = 20) := by show _ = _; simp [ckB]
    go_enter Tryz.func13, Tryz.ntmps13
    go_wp2_with (go_at_call 63; (first | with_reducible refine (c1 _).out.mono ?_); rintro e w1 ⟨rfl, rfl⟩)
    go_ret
    exact ⟨ret_int HR.out.symm, (by repeat (first | exact Below.refl _ _ | assumption | refine Below.alloc ?_ (by first | omega | (simp; omega) | simp) _ | refine Below.setCell ?_ (by first | omega | (simp; omega) | simp) _ | refine below_drewN ?_ _ | refine Below.drew ?_ | refine back ?_ (by assumption)))⟩
  cases b2
  · have HR : Hid (ckB true false b3 (decide (a ≠ b)) b5 b6 = 20) := by show _ = _; simp [ckB]
    go_enter Tryz.func13, Tryz.ntmps13
    go_wp2_with (go_at_call 63; (first | with_reducible refine (c1 _).out.mono ?_ | with_reducible refine (c2 _).out.mono ?_); rintro e w1 ⟨rfl, rfl⟩)
    go_ret
    exact ⟨ret_int HR.out.symm, (by repeat (first | exact Below.refl _ _ | assumption | refine Below.alloc ?_ (by first | omega | (simp; omega) | simp) _ | refine Below.setCell ?_ (by first | omega | (simp; omega) | simp) _ | refine below_drewN ?_ _ | refine Below.drew ?_ | refine back ?_ (by assumption)))⟩
  cases b3
  · have HR : Hid (ckB true true false (decide (a ≠ b)) b5 b6 = 20) := by show _ = _; simp [ckB]
    go_enter Tryz.func13, Tryz.ntmps13
    go_wp2_with (go_at_call 63; (first | with_reducible refine (c1 _).out.mono ?_ | with_reducible refine (c2 _).out.mono ?_ | with_reducible refine (c3 _).out.mono ?_); rintro e w1 ⟨rfl, rfl⟩)
    go_ret
    exact ⟨ret_int HR.out.symm, (by repeat (first | exact Below.refl _ _ | assumption | refine Below.alloc ?_ (by first | omega | (simp; omega) | simp) _ | refine Below.setCell ?_ (by first | omega | (simp; omega) | simp) _ | refine below_drewN ?_ _ | refine Below.drew ?_ | refine back ?_ (by assumption)))⟩
  by_cases h4 : a = b
  · subst h4
    have HR : Hid (ckB true true true (decide (a ≠ a)) b5 b6 = 20) := by show _ = _; simp [ckB]
    go_enter Tryz.func13, Tryz.ntmps13
    go_wp2_with (go_at_call 63; (first | with_reducible refine (c1 _).out.mono ?_ | with_reducible refine (c2 _).out.mono ?_ | with_reducible refine (c3 _).out.mono ?_); rintro e w1 ⟨rfl, rfl⟩)
    go_ret
    exact ⟨ret_int HR.out.symm, (by repeat (first | exact Below.refl _ _ | assumption | refine Below.alloc ?_ (by first | omega | (simp; omega) | simp) _ | refine Below.setCell ?_ (by first | omega | (simp; omega) | simp) _ | refine below_drewN ?_ _ | refine Below.drew ?_ | refine back ?_ (by assumption)))⟩
  cases b5
  · have HR : Hid (ckB true true true (decide (a ≠ b)) false b6 = 20) := by show _ = _; simp [ckB]
    go_enter Tryz.func13, Tryz.ntmps13
    go_wp2_with (go_at_call 63; (first | with_reducible refine (c1 _).out.mono ?_ | with_reducible refine (c2 _).out.mono ?_ | with_reducible refine (c3 _).out.mono ?_ | with_reducible refine (c5 _).out.mono ?_); rintro e w1 ⟨rfl, rfl⟩)
    go_ret
    exact ⟨ret_int HR.out.symm, (by repeat (first | exact Below.refl _ _ | assumption | refine Below.alloc ?_ (by first | omega | (simp; omega) | simp) _ | refine Below.setCell ?_ (by first | omega | (simp; omega) | simp) _ | refine below_drewN ?_ _ | refine Below.drew ?_ | refine back ?_ (by assumption)))⟩
  cases b6
  · have HR : Hid (ckB true true true (decide (a ≠ b)) true false = 20) := by show _ = _; simp [ckB]
    go_enter Tryz.func13, Tryz.ntmps13
    go_wp2_with (go_at_call 63; (first | with_reducible refine (c1 _).out.mono ?_ | with_reducible refine (c2 _).out.mono ?_ | with_reducible refine (c3 _).out.mono ?_ | with_reducible refine (c5 _).out.mono ?_ | with_reducible refine (c6 _).out.mono ?_); rintro e w1 ⟨rfl, rfl⟩)
    go_ret
    exact ⟨ret_int HR.out.symm, (by repeat (first | exact Below.refl _ _ | assumption | refine Below.alloc ?_ (by first | omega | (simp; omega) | simp) _ | refine Below.setCell ?_ (by first | omega | (simp; omega) | simp) _ | refine below_drewN ?_ _ | refine Below.drew ?_ | refine back ?_ (by assumption)))⟩
  · have HR0 : Hid (ckB true true true (decide (a ≠ b)) true true = 0) := by show _ = _; simp [ckB, h4]
    have h5 : (a == b) = false := by simp [h4]
    have h6 : (a != b) = true := by simp [h4]
    have HR : Hid (ckB true true true (decide (a ≠ b)) true true = 0) := HR0
    go_enter Tryz.func13, Tryz.ntmps13
    go_wp2_with (go_at_call 63; (first | with_reducible refine (c1 _).out.mono ?_ | with_reducible refine (c2 _).out.mono ?_ | with_reducible refine (c3 _).out.mono ?_ | with_reducible refine (c5 _).out.mono ?_ | with_reducible refine (c6 _).out.mono ?_); rintro e w1 ⟨rfl, rfl⟩)
    go_ret
    exact ⟨ret_int HR.out.symm, (by repeat (first | exact Below.refl _ _ | assumption | refine Below.alloc ?_ (by first | omega | (simp; omega) | simp) _ | refine Below.setCell ?_ (by first | omega | (simp; omega) | simp) _ | refine below_drewN ?_ _ | refine Below.drew ?_ | refine back ?_ (by assumption)))⟩
set_option maxRecDepth 100000 in
set_option maxHeartbeats 4000000 in
theorem rck_walk (many a b m y : Int) (b1 b2 b3 b5 b6 : Bool) (w : World)
    (c1 : ∀ w, Hid (Calls Tryz.prog 64 #[.int .i64 many, .int .i64 0, .int .i64 64] w fun e w' => e = .returned (.bool b1) ∧ w = w'))
    (c2 : ∀ w, Hid (Calls Tryz.prog 64 #[.int .i64 a, .int .i64 0, .int .i64 many] w fun e w' => e = .returned (.bool b2) ∧ w = w'))
    (c3 : ∀ w, Hid (Calls Tryz.prog 64 #[.int .i64 b, .int .i64 0, .int .i64 many] w fun e w' => e = .returned (.bool b3) ∧ w = w'))
    (c5 : ∀ w, Hid (Calls Tryz.prog 64 #[.int .i64 m, .int .i64 (-20000), .int .i64 20000] w fun e w' => e = .returned (.bool b5) ∧ w = w'))
    (c6 : ∀ w, Hid (Calls Tryz.prog 64 #[.int .i64 y, .int .i64 1, .int .i64 99999] w fun e w' => e = .returned (.bool b6) ∧ w = w')) :
    Calls Tryz.prog 14 #[.int .i64 many, .agg #[.int .i64 a, .int .i64 b, .int .i64 m, .int .i64 y]] w fun e w' => e = .returned (.int .i64 (ckB b1 b2 b3 (decide (a ≠ b)) b5 b6)) ∧ Below w.heap.size w w' := by
  cases b1
  · have HR : Hid (ckB false b2 b3 (decide (a ≠ b)) b5 b6 = 20) := by show _ = _; simp [ckB]
    go_enter Tryz.func14, Tryz.ntmps14
    go_wp2_with (go_at_call 64; (first | with_reducible refine (c1 _).out.mono ?_); rintro e w1 ⟨rfl, rfl⟩)
    go_ret
    exact ⟨ret_int HR.out.symm, (by repeat (first | exact Below.refl _ _ | assumption | refine Below.alloc ?_ (by first | omega | (simp; omega) | simp) _ | refine Below.setCell ?_ (by first | omega | (simp; omega) | simp) _ | refine below_drewN ?_ _ | refine Below.drew ?_ | refine back ?_ (by assumption)))⟩
  cases b2
  · have HR : Hid (ckB true false b3 (decide (a ≠ b)) b5 b6 = 20) := by show _ = _; simp [ckB]
    go_enter Tryz.func14, Tryz.ntmps14
    go_wp2_with (go_at_call 64; (first | with_reducible refine (c1 _).out.mono ?_ | with_reducible refine (c2 _).out.mono ?_); rintro e w1 ⟨rfl, rfl⟩)
    go_ret
    exact ⟨ret_int HR.out.symm, (by repeat (first | exact Below.refl _ _ | assumption | refine Below.alloc ?_ (by first | omega | (simp; omega) | simp) _ | refine Below.setCell ?_ (by first | omega | (simp; omega) | simp) _ | refine below_drewN ?_ _ | refine Below.drew ?_ | refine back ?_ (by assumption)))⟩
  cases b3
  · have HR : Hid (ckB true true false (decide (a ≠ b)) b5 b6 = 20) := by show _ = _; simp [ckB]
    go_enter Tryz.func14, Tryz.ntmps14
    go_wp2_with (go_at_call 64; (first | with_reducible refine (c1 _).out.mono ?_ | with_reducible refine (c2 _).out.mono ?_ | with_reducible refine (c3 _).out.mono ?_); rintro e w1 ⟨rfl, rfl⟩)
    go_ret
    exact ⟨ret_int HR.out.symm, (by repeat (first | exact Below.refl _ _ | assumption | refine Below.alloc ?_ (by first | omega | (simp; omega) | simp) _ | refine Below.setCell ?_ (by first | omega | (simp; omega) | simp) _ | refine below_drewN ?_ _ | refine Below.drew ?_ | refine back ?_ (by assumption)))⟩
  by_cases h4 : a = b
  · subst h4
    have HR : Hid (ckB true true true (decide (a ≠ a)) b5 b6 = 20) := by show _ = _; simp [ckB]
    go_enter Tryz.func14, Tryz.ntmps14
    go_wp2_with (go_at_call 64; (first | with_reducible refine (c1 _).out.mono ?_ | with_reducible refine (c2 _).out.mono ?_ | with_reducible refine (c3 _).out.mono ?_); rintro e w1 ⟨rfl, rfl⟩)
    go_ret
    exact ⟨ret_int HR.out.symm, (by repeat (first | exact Below.refl _ _ | assumption | refine Below.alloc ?_ (by first | omega | (simp; omega) | simp) _ | refine Below.setCell ?_ (by first | omega | (simp; omega) | simp) _ | refine below_drewN ?_ _ | refine Below.drew ?_ | refine back ?_ (by assumption)))⟩
  cases b5
  · have HR : Hid (ckB true true true (decide (a ≠ b)) false b6 = 20) := by show _ = _; simp [ckB]
    go_enter Tryz.func14, Tryz.ntmps14
    go_wp2_with (go_at_call 64; (first | with_reducible refine (c1 _).out.mono ?_ | with_reducible refine (c2 _).out.mono ?_ | with_reducible refine (c3 _).out.mono ?_ | with_reducible refine (c5 _).out.mono ?_); rintro e w1 ⟨rfl, rfl⟩)
    go_ret
    exact ⟨ret_int HR.out.symm, (by repeat (first | exact Below.refl _ _ | assumption | refine Below.alloc ?_ (by first | omega | (simp; omega) | simp) _ | refine Below.setCell ?_ (by first | omega | (simp; omega) | simp) _ | refine below_drewN ?_ _ | refine Below.drew ?_ | refine back ?_ (by assumption)))⟩
  cases b6
  · have HR : Hid (ckB true true true (decide (a ≠ b)) true false = 20) := by show _ = _; simp [ckB]
    go_enter Tryz.func14, Tryz.ntmps14
    go_wp2_with (go_at_call 64; (first | with_reducible refine (c1 _).out.mono ?_ | with_reducible refine (c2 _).out.mono ?_ | with_reducible refine (c3 _).out.mono ?_ | with_reducible refine (c5 _).out.mono ?_ | with_reducible refine (c6 _).out.mono ?_); rintro e w1 ⟨rfl, rfl⟩)
    go_ret
    exact ⟨ret_int HR.out.symm, (by repeat (first | exact Below.refl _ _ | assumption | refine Below.alloc ?_ (by first | omega | (simp; omega) | simp) _ | refine Below.setCell ?_ (by first | omega | (simp; omega) | simp) _ | refine below_drewN ?_ _ | refine Below.drew ?_ | refine back ?_ (by assumption)))⟩
  · have HR0 : Hid (ckB true true true (decide (a ≠ b)) true true = 0) := by show _ = _; simp [ckB, h4]
    have h5 : (a == b) = false := by simp [h4]
    have h6 : (a != b) = true := by simp [h4]
    have HR : Hid (ckB true true true (decide (a ≠ b)) true true = 0) := HR0
    go_enter Tryz.func14, Tryz.ntmps14
    go_wp2_with (go_at_call 64; (first | with_reducible refine (c1 _).out.mono ?_ | with_reducible refine (c2 _).out.mono ?_ | with_reducible refine (c3 _).out.mono ?_ | with_reducible refine (c5 _).out.mono ?_ | with_reducible refine (c6 _).out.mono ?_); rintro e w1 ⟨rfl, rfl⟩)
    go_ret
    exact ⟨ret_int HR.out.symm, (by repeat (first | exact Below.refl _ _ | assumption | refine Below.alloc ?_ (by first | omega | (simp; omega) | simp) _ | refine Below.setCell ?_ (by first | omega | (simp; omega) | simp) _ | refine below_drewN ?_ _ | refine Below.drew ?_ | refine back ?_ (by assumption)))⟩

theorem clim_w (many : Int) (l : Lm) (w : World) :
    Calls Tryz.prog 13 #[.int .i64 many, .agg #[.int .i64 l.a, .int .i64 l.b, .int .i64 l.m, .int .i64 l.y]] w fun e w' => e = .returned (.int .i64 (ckL many l)) ∧ Below w.heap.size w w' := by
  rw [ckL_eq]
  exact ck_walk many l.a l.b l.m l.y _ _ _ _ _ w (fun w => inside_w rfl w) (fun w => inside_w rfl w) (fun w => inside_w rfl w) (fun w => inside_w rfl w) (fun w => inside_w rfl w)
theorem rclim_w (many : Int) (l : Lm) (w : World) :
    Calls Tryz.prog 14 #[.int .i64 many, .agg #[.int .i64 l.a, .int .i64 l.b, .int .i64 l.m, .int .i64 l.y]] w fun e w' => e = .returned (.int .i64 (ckL many l)) ∧ Below w.heap.size w w' := by
  rw [ckL_eq]
  exact rck_walk many l.a l.b l.m l.y _ _ _ _ _ w (fun w => rwithin_w rfl w) (fun w => rwithin_w rfl w) (fun w => rwithin_w rfl w) (fun w => rwithin_w rfl w) (fun w => rwithin_w rfl w)
end Go.Proofs.YtpedbdicjgdgkaaGreat

/- Whether a system is valid: both sides. -/
namespace Go.Proofs.YtpedbdicjgdgkaaGreat
open Go Go.RowKit

/-- Whether a system is valid: 0, or the error's number. -/
def ckS (many : Int) (ls : List Lm) : Int := if inB 0 64 many = true then (if (400 : Int) < ls.length then 2 else if ls.all (fun l => decide (ckL many l = 0)) = true then 0 else 20) else 21
theorem ckL_or (many : Int) (l : Lm) : ckL many l = 0 ∨ ckL many l = 20 := by unfold ckL; split <;> simp
theorem clim_at {many : Int} {l : Lm} {r : Int} (h : ckL many l = r) (w : World) :
    Calls Tryz.prog 13 #[.int .i64 many, .agg #[.int .i64 l.a, .int .i64 l.b, .int .i64 l.m, .int .i64 l.y]] w fun e w' => e = .returned (.int .i64 r) ∧ Below w.heap.size w w' := by
  subst h; exact clim_w many l w
theorem rclim_at {many : Int} {l : Lm} {r : Int} (h : ckL many l = r) (w : World) :
    Calls Tryz.prog 14 #[.int .i64 many, .agg #[.int .i64 l.a, .int .i64 l.b, .int .i64 l.m, .int .i64 l.y]] w fun e w' => e = .returned (.int .i64 r) ∧ Below w.heap.size w w' := by
  subst h; exact rclim_w many l w
theorem LmC.below {w w' : World} {B b o : Nat} {l : Lm} (h : LmC w b o l) (hb : Below B w w') (hlt : b < B) : LmC w' b o l := by
  obtain ⟨h1, h2, h3, h4⟩ := h
  exact ⟨by rw [hb.cell (p := ⟨b, _, none⟩) hlt]; exact h1, by rw [hb.cell (p := ⟨b, _, none⟩) hlt]; exact h2, by rw [hb.cell (p := ⟨b, _, none⟩) hlt]; exact h3, by rw [hb.cell (p := ⟨b, _, none⟩) hlt]; exact h4⟩
theorem lm_all (many : Int) (ls : List Lm) (k : Nat) (hk : k < ls.length) (l : Lm) (hl : lmAt ls k = l) : (ls.take (k + 1)).all (fun l => decide (ckL many l = 0)) = ((ls.take k).all (fun l => decide (ckL many l = 0)) && decide (ckL many l = 0)) ∧ (ckL many l ≠ 0 → ls.all (fun l => decide (ckL many l = 0)) = false) := by
  have e : ls[k] = l := by rw [← hl]; simp [lmAt, hk]
  exact ⟨by rw [take_all _ _ _ hk, e], fun h => all_false _ _ k hk (by rw [e]; simp [h])⟩

theorem cell_over {wr w2 : World} {o : Obj} {p : Addr} (hb : Below (wr.alloc o).heap.size (wr.alloc o) w2) (hp : p.block < wr.heap.size) : w2.cell? p = wr.cell? p :=
  (hb.cell (by simp; omega)).trans (((Below.refl _ wr).alloc (Nat.le_refl _) o).cell hp)
set_option maxRecDepth 100000 in
set_option maxHeartbeats 4000000 in
theorem scheck_w (many : Int) (a : Option Addr) (n cap : Nat) (ls : List Lm) (w : World) (h : IsS w (.slice a n cap) ls) :
    Calls Tryz.prog 15 #[.agg #[.int .i64 many, .slice a n cap]] w fun e w' => e = .returned (.int .i64 (ckS many ls)) ∧ Below w.heap.size w w' := by
  obtain ⟨a', cap', hv, h1, h2, h3, h4⟩ := h
  cases hv
  unfold maxLen at h2
  have H3 := hide h3; clear h3
  cases e1 : inB 0 64 many
  · have HR : Hid (ckS many ls = 21) := by show _ = _; unfold ckS; rw [e1]; rfl
    have c1 := fun w => hide (inside_w e1 w); clear e1
    go_enter Tryz.func15, Tryz.ntmps15
    go_wp2_with (go_at_call 63; refine (c1 _).out.mono ?_; rintro e w1 ⟨rfl, rfl⟩)
    go_ret
    exact ⟨ret_int HR.out.symm, (by repeat (first | exact Below.refl _ _ | assumption | refine Below.alloc ?_ (by first | omega | (simp; omega) | simp) _ | refine Below.setCell ?_ (by first | omega | (simp; omega) | simp) _ | refine below_drewN ?_ _ | refine Below.drew ?_ | refine back ?_ (by assumption)))⟩
  have c1 := fun w => hide (inside_w e1 w)
  by_cases hL : (400 : Int) < ls.length
  · have HR : Hid (ckS many ls = 2) := by show _ = _; unfold ckS; rw [e1, if_pos rfl, if_pos hL]
    clear e1
    go_enter Tryz.func15, Tryz.ntmps15
    go_wp2_with (go_at_call 63; refine (c1 _).out.mono ?_; rintro e w1 ⟨rfl, rfl⟩)
    go_ret
    exact ⟨ret_int HR.out.symm, (by repeat (first | exact Below.refl _ _ | assumption | refine Below.alloc ?_ (by first | omega | (simp; omega) | simp) _ | refine Below.setCell ?_ (by first | omega | (simp; omega) | simp) _ | refine below_drewN ?_ _ | refine Below.drew ?_ | refine back ?_ (by assumption)))⟩
  have HR : Hid (ckS many ls = if ls.all (fun l => decide (ckL many l = 0)) = true then 0 else 20) := by show _ = _; unfold ckS; rw [e1, if_pos rfl, if_neg hL]
  clear e1
  go_enter Tryz.func15, Tryz.ntmps15
  go_wp2_with (go_at_call 63; refine (c1 _).out.mono ?_; rintro e w1 ⟨rfl, rfl⟩)
  go_outline
  go_loopw [17] (fun i wr => ∃ k : Nat, i = .int .i64 k ∧ k ≤ ls.length ∧ Hid ((ls.take k).all (fun l => decide (ckL many l = 0)) = true) ∧ Below w.heap.size w wr ∧ w.heap.size < wr.heap.size ∧ wr.cell? ⟨w.heap.size, 0, none⟩ = some (.int .i64 many)) (fun i _ => ls.length - (intOf i).toNat)
  case atStart => exact ⟨0, rfl, Nat.zero_le _, hide rfl, (by repeat (first | exact Below.refl _ _ | assumption | refine Below.alloc ?_ (by first | omega | (simp; omega) | simp) _ | refine Below.setCell ?_ (by first | omega | (simp; omega) | simp) _ | refine below_drewN ?_ _ | refine Below.drew ?_ | refine back ?_ (by assumption))), by simp, by simp⟩
  case round =>
    obtain ⟨k, rfl, hk, hall, hbw, hlw, hcm⟩ := hrel
    by_cases hlt : k < ls.length
    · obtain ⟨b, off, rfl, hbl, hc⟩ := h4 (by intro h; subst h; simp at hlt)
      obtain ⟨l, hl⟩ : ∃ l, lmAt ls k = l := ⟨_, rfl⟩
      have hck := (hc k hlt).below hbw hbl
      rw [hl] at hck
      obtain ⟨d1, d2, d3, d4⟩ := hck
      have HA := hide (lm_all many ls k hlt l hl)
      clear hl hc
      have hbw' : b < wr.heap.size := by omega
      rcases ckL_or many l with hr | hr
      · have HN : Hid ((ls.take (k + 1)).all (fun l => decide (ckL many l = 0)) = true) := by show _ = _; rw [HA.out.1, hall.out, hr]; rfl
        have hcl := fun w => hide (clim_at hr w)
        clear hr HA hall
        go_wp2_with (go_at_call 13; refine (hcl _).out.mono ?_; rintro e w2 ⟨rfl, hb2⟩)
        have hz2 := hb2.size
        simp at hz2
        have hcm2 := (cell_over (p := ⟨w.heap.size, 0, none⟩) hb2 hlw).trans hcm
        have hB2 : Below w.heap.size w w2 := (by repeat (first | exact Below.refl _ _ | assumption | refine Below.alloc ?_ (by first | omega | (simp; omega) | simp) _ | refine Below.setCell ?_ (by first | omega | (simp; omega) | simp) _ | refine below_drewN ?_ _ | refine Below.drew ?_ | refine back ?_ (by assumption)))
        clear hb2
        exact ⟨⟨k + 1, by go_num, by omega, HN, hB2, by omega, hcm2⟩, by simp [intOf]; omega⟩
      · have HN : Hid (ckS many ls = 20) := by show _ = _; rw [HR.out, if_neg (by rw [HA.out.2 (by rw [hr]; decide)]; simp)]
        have hcl := fun w => hide (clim_at hr w)
        clear hr HA hall
        go_wp2_with (go_at_call 13; refine (hcl _).out.mono ?_; rintro e w2 ⟨rfl, hb2⟩)
        go_ret
        exact ⟨ret_int HN.out.symm, (by repeat (first | exact Below.refl _ _ | assumption | refine Below.alloc ?_ (by first | omega | (simp; omega) | simp) _ | refine Below.setCell ?_ (by first | omega | (simp; omega) | simp) _ | refine below_drewN ?_ _ | refine Below.drew ?_ | refine back ?_ (by assumption)))⟩
    · have hkl : k = ls.length := by omega
      have HN : Hid (ckS many ls = 0) := by
        show _ = _
        have := hall.out
        rw [hkl, List.take_length] at this
        rw [HR.out, if_pos this]
      clear hkl hall
      go_wp2
      go_ret
      exact ⟨ret_int HN.out.symm, (by repeat (first | exact Below.refl _ _ | assumption | refine Below.alloc ?_ (by first | omega | (simp; omega) | simp) _ | refine Below.setCell ?_ (by first | omega | (simp; omega) | simp) _ | refine below_drewN ?_ _ | refine Below.drew ?_ | refine back ?_ (by assumption)))⟩
set_option maxRecDepth 100000 in
set_option maxHeartbeats 4000000 in
theorem rscheck_w (many : Int) (a : Option Addr) (n cap : Nat) (ls : List Lm) (w : World) (h : IsS w (.slice a n cap) ls) :
    Calls Tryz.prog 16 #[.agg #[.int .i64 many, .slice a n cap]] w fun e w' => e = .returned (.int .i64 (ckS many ls)) ∧ Below w.heap.size w w' := by
  obtain ⟨a', cap', hv, h1, h2, h3, h4⟩ := h
  cases hv
  unfold maxLen at h2
  have H3 := hide h3; clear h3
  cases e1 : inB 0 64 many
  · have HR : Hid (ckS many ls = 21) := by show _ = _; unfold ckS; rw [e1]; rfl
    have c1 := fun w => hide (rwithin_w e1 w); clear e1
    go_enter Tryz.func16, Tryz.ntmps16
    go_wp2_with (go_at_call 64; refine (c1 _).out.mono ?_; rintro e w1 ⟨rfl, rfl⟩)
    go_ret
    exact ⟨ret_int HR.out.symm, (by repeat (first | exact Below.refl _ _ | assumption | refine Below.alloc ?_ (by first | omega | (simp; omega) | simp) _ | refine Below.setCell ?_ (by first | omega | (simp; omega) | simp) _ | refine below_drewN ?_ _ | refine Below.drew ?_ | refine back ?_ (by assumption)))⟩
  have c1 := fun w => hide (rwithin_w e1 w)
  by_cases hL : (400 : Int) < ls.length
  · have HR : Hid (ckS many ls = 2) := by show _ = _; unfold ckS; rw [e1, if_pos rfl, if_pos hL]
    clear e1
    go_enter Tryz.func16, Tryz.ntmps16
    go_wp2_with (go_at_call 64; refine (c1 _).out.mono ?_; rintro e w1 ⟨rfl, rfl⟩)
    go_ret
    exact ⟨ret_int HR.out.symm, (by repeat (first | exact Below.refl _ _ | assumption | refine Below.alloc ?_ (by first | omega | (simp; omega) | simp) _ | refine Below.setCell ?_ (by first | omega | (simp; omega) | simp) _ | refine below_drewN ?_ _ | refine Below.drew ?_ | refine back ?_ (by assumption)))⟩
  have HR : Hid (ckS many ls = if ls.all (fun l => decide (ckL many l = 0)) = true then 0 else 20) := by show _ = _; unfold ckS; rw [e1, if_pos rfl, if_neg hL]
  clear e1
  go_enter Tryz.func16, Tryz.ntmps16
  go_wp2_with (go_at_call 64; refine (c1 _).out.mono ?_; rintro e w1 ⟨rfl, rfl⟩)
  go_outline
  go_loopw [16] (fun i wr => ∃ k : Nat, i = .int .i64 k ∧ k ≤ ls.length ∧ Hid ((ls.take k).all (fun l => decide (ckL many l = 0)) = true) ∧ Below w.heap.size w wr ∧ w.heap.size < wr.heap.size ∧ wr.cell? ⟨w.heap.size, 0, none⟩ = some (.int .i64 many)) (fun i _ => ls.length - (intOf i).toNat)
  case atStart => exact ⟨0, rfl, Nat.zero_le _, hide rfl, (by repeat (first | exact Below.refl _ _ | assumption | refine Below.alloc ?_ (by first | omega | (simp; omega) | simp) _ | refine Below.setCell ?_ (by first | omega | (simp; omega) | simp) _ | refine below_drewN ?_ _ | refine Below.drew ?_ | refine back ?_ (by assumption))), by simp, by simp⟩
  case round =>
    obtain ⟨k, rfl, hk, hall, hbw, hlw, hcm⟩ := hrel
    by_cases hlt : k < ls.length
    · obtain ⟨b, off, rfl, hbl, hc⟩ := h4 (by intro h; subst h; simp at hlt)
      obtain ⟨l, hl⟩ : ∃ l, lmAt ls k = l := ⟨_, rfl⟩
      have hck := (hc k hlt).below hbw hbl
      rw [hl] at hck
      obtain ⟨d1, d2, d3, d4⟩ := hck
      have HA := hide (lm_all many ls k hlt l hl)
      clear hl hc
      have hbw' : b < wr.heap.size := by omega
      rcases ckL_or many l with hr | hr
      · have HN : Hid ((ls.take (k + 1)).all (fun l => decide (ckL many l = 0)) = true) := by show _ = _; rw [HA.out.1, hall.out, hr]; rfl
        have hcl := fun w => hide (rclim_at hr w)
        clear hr HA hall
        go_wp2_with (go_at_call 14; refine (hcl _).out.mono ?_; rintro e w2 ⟨rfl, hb2⟩)
        have hz2 := hb2.size
        simp at hz2
        have hcm2 := (cell_over (p := ⟨w.heap.size, 0, none⟩) hb2 hlw).trans hcm
        have hB2 : Below w.heap.size w w2 := (by repeat (first | exact Below.refl _ _ | assumption | refine Below.alloc ?_ (by first | omega | (simp; omega) | simp) _ | refine Below.setCell ?_ (by first | omega | (simp; omega) | simp) _ | refine below_drewN ?_ _ | refine Below.drew ?_ | refine back ?_ (by assumption)))
        clear hb2
        exact ⟨⟨k + 1, by go_num, by omega, HN, hB2, by omega, hcm2⟩, by simp [intOf]; omega⟩
      · have HN : Hid (ckS many ls = 20) := by show _ = _; rw [HR.out, if_neg (by rw [HA.out.2 (by rw [hr]; decide)]; simp)]
        have hcl := fun w => hide (rclim_at hr w)
        clear hr HA hall
        go_wp2_with (go_at_call 14; refine (hcl _).out.mono ?_; rintro e w2 ⟨rfl, hb2⟩)
        go_ret
        exact ⟨ret_int HN.out.symm, (by repeat (first | exact Below.refl _ _ | assumption | refine Below.alloc ?_ (by first | omega | (simp; omega) | simp) _ | refine Below.setCell ?_ (by first | omega | (simp; omega) | simp) _ | refine below_drewN ?_ _ | refine Below.drew ?_ | refine back ?_ (by assumption)))⟩
    · have hkl : k = ls.length := by omega
      have HN : Hid (ckS many ls = 0) := by
        show _ = _
        have := hall.out
        rw [hkl, List.take_length] at this
        rw [HR.out, if_pos this]
      clear hkl hall
      go_wp2
      go_ret
      exact ⟨ret_int HN.out.symm, (by repeat (first | exact Below.refl _ _ | assumption | refine Below.alloc ?_ (by first | omega | (simp; omega) | simp) _ | refine Below.setCell ?_ (by first | omega | (simp; omega) | simp) _ | refine below_drewN ?_ _ | refine Below.drew ?_ | refine back ?_ (by assumption)))⟩
end Go.Proofs.YtpedbdicjgdgkaaGreat

/- Lists and systems that read alike are the same; whether a list has a number. -/
namespace Go.Proofs.YtpedbdicjgdgkaaGreat
open Go Go.RowKit

set_option maxHeartbeats 1000000 in
/-- Two slices that read as one list are the same. -/
theorem same2_w (v1 v2 : Value) (xs : List Int) (w : World) (h1 : IsL w v1 xs) (h2 : IsL w v2 xs) :
    Calls Tryz.prog 18 #[v1, v2] w fun e w' => e = .returned (.bool true) ∧ Drew w w' := by
  obtain ⟨a1, c1, rfl, l1, m1, _, k1⟩ := h1
  obtain ⟨a2, c2, rfl, l2, m2, _, k2⟩ := h2
  unfold maxLen at m1 m2
  go_enter Tryz.func18, Tryz.ntmps18
  go_wp2
  go_loopw [13] (fun i wr => ∃ k n : Nat, i = .int .i64 k ∧ k ≤ xs.length ∧ wr = w.drewN n) (fun i _ => xs.length - (intOf i).toNat)
  case atStart => exact ⟨0, 0, rfl, Nat.zero_le _, rfl⟩
  case round =>
    obtain ⟨k, n, rfl, hk, rfl⟩ := hrel
    by_cases hlt : k < xs.length
    · have hne : xs ≠ [] := by intro h; subst h; simp at hlt
      obtain ⟨b1, o1, rfl, _, q1⟩ := k1 hne
      obtain ⟨b2, o2, rfl, _, q2⟩ := k2 hne
      have d1 := q1 k hlt
      have d2 := q2 k hlt
      clear q1 q2 hne
      have hl : (k : Int) < xs.length := by omega
      obtain ⟨x, hx⟩ : ∃ x, xs[k]?.getD 0 = x := ⟨_, rfl⟩
      rw [hx] at d1 d2
      clear hx
      go_wp2
      go_quiet (fail)
      go_wp2
      go_roundw
      case rel => exact ⟨k + 1, _, by go_num, by omega, (by first | rfl | exact World.drewN_drewN _ _ _)⟩
      case measure => simp [intOf]; omega
    · have hl : ¬ ((k : Int) < xs.length) := by omega
      go_wp2
      go_ret
      exact ⟨rfl, n, rfl⟩

set_option maxHeartbeats 1000000 in
theorem has_w (a : Option Addr) (n cap : Nat) (xs : List Int) (x : Int) (w : World) (h : IsL w (.slice a n cap) xs) :
    Calls Tryz.prog 61 #[.slice a n cap, .int .i64 x] w fun e w' => e = .returned (.bool (decide (x ∈ xs))) ∧ w = w' := by
  obtain ⟨a', cap', hv, h1, h2, h3, h4⟩ := h
  cases hv
  unfold maxLen at h2
  clear h3
  go_enter Tryz.func61, Tryz.ntmps61
  go_wp2
  go_loop [9] (fun i => ∃ k : Nat, i = .int .i64 k ∧ k ≤ xs.length ∧ Hid (x ∉ xs.take k)) (fun i => xs.length - (intOf i).toNat)
  case atStart => exact ⟨0, rfl, Nat.zero_le _, hide (by simp)⟩
  case round =>
    obtain ⟨k, rfl, hk, hno⟩ := hrel
    by_cases hlt : k < xs.length
    · obtain ⟨b, off, rfl, hbl, hc⟩ := h4 (by intro h; subst h; simp at hlt)
      have hck := hc k hlt
      have hx : xs[k]?.getD 0 = xs[k] := by simp [hlt]
      rw [hx] at hck
      obtain ⟨y, hyk⟩ : ∃ y, xs[k] = y := ⟨_, rfl⟩
      rw [hyk] at hck
      clear hx hc
      have HY := hide hyk; clear hyk
      by_cases hxy : y = x
      · have HN : Hid (decide (x ∈ xs) = true) := by
          show _ = _
          have := List.getElem_mem hlt
          rw [HY.out, hxy] at this
          simpa using this
        subst hxy
        go_wp2
        go_ret
        exact ⟨ret_bool HN.out.symm, rfl⟩
      · have HN : Hid (x ∉ xs.take (k + 1)) := by
          show ¬ _
          rw [List.take_succ_eq_append_getElem hlt, List.mem_append]
          rintro (h | h)
          · exact hno.out h
          · rw [HY.out] at h
            simp at h
            exact hxy h.symm
        have hxy' : (y == x) = false := by simpa using hxy
        go_wp2
        go_round
        case rel => exact ⟨k + 1, by go_num, by omega, HN⟩
        case measure => simp [intOf]; omega
    · have hkl : k = xs.length := by omega
      have HN : Hid (decide (x ∈ xs) = false) := by
        show _ = _
        have := hno.out
        rw [List.take_of_length_le (by omega)] at this
        simpa using this
      clear hkl
      go_wp2
      go_ret
      exact ⟨ret_bool HN.out.symm, rfl⟩

set_option maxRecDepth 100000 in
set_option maxHeartbeats 4000000 in
/-- Two systems that read alike are the same. -/
theorem sameSys_w (many : Int) (v1 v2 : Value) (ls : List Lm) (w : World) (h1 : IsS w v1 ls) (h2 : IsS w v2 ls) :
    Calls Tryz.prog 17 #[.agg #[.int .i64 many, v1], .agg #[.int .i64 many, v2]] w fun e w' => e = .returned (.bool true) ∧ Below w.heap.size w w' := by
  obtain ⟨a1, c1, rfl, l1, m1, _, k1⟩ := h1
  obtain ⟨a2, c2, rfl, l2, m2, _, k2⟩ := h2
  unfold maxLen at m1 m2
  go_enter Tryz.func17, Tryz.ntmps17
  go_wp2
  obtain ⟨W0, hW0⟩ : ∃ W, (w.alloc (.cells #[.int .i64 many, .slice a1 ls.length c1] 24)).alloc (.cells #[.int .i64 many, .slice a2 ls.length c2] 24) = W := ⟨_, rfl⟩
  have e1 : W0.cell? ⟨w.heap.size, 1, none⟩ = some (.slice a1 ls.length c1) := by rw [← hW0]; simp
  have e2 : W0.cell? ⟨w.heap.size + 1, 1, none⟩ = some (.slice a2 ls.length c2) := by rw [← hW0]; simp
  have hB : Below w.heap.size w W0 := by rw [← hW0]; exact (by repeat (first | exact Below.refl _ _ | assumption | refine Below.alloc ?_ (by first | omega | (simp; omega) | simp) _ | refine Below.setCell ?_ (by first | omega | (simp; omega) | simp) _ | refine below_drewN ?_ _ | refine Below.drew ?_ | refine back ?_ (by assumption)))
  rw [hW0]
  go_loopw [23] (fun i wr => ∃ k n : Nat, i = .int .i64 k ∧ k ≤ ls.length ∧ wr = W0.drewN n) (fun i _ => ls.length - (intOf i).toNat)
  case atStart => exact ⟨0, 0, rfl, Nat.zero_le _, rfl⟩
  case round =>
    obtain ⟨k, n, rfl, hk, rfl⟩ := hrel
    by_cases hlt : k < ls.length
    · have hne : ls ≠ [] := by intro h; subst h; simp at hlt
      obtain ⟨b1, o1, rfl, g1, q1⟩ := k1 hne
      obtain ⟨b2, o2, rfl, g2, q2⟩ := k2 hne
      obtain ⟨d1, d2, d3, d4⟩ := (q1 k hlt).below hB g1
      obtain ⟨f1, f2, f3, f4⟩ := (q2 k hlt).below hB g2
      clear q1 q2 hne hW0
      have hl : (k : Int) < ls.length := by omega
      obtain ⟨x, hx⟩ : ∃ x, lmAt ls k = x := ⟨_, rfl⟩
      rw [hx] at d1 d2 d3 d4 f1 f2 f3 f4
      clear hx
      go_wp2
      go_quiet (fail)
      go_wp2
      go_roundw
      case rel => exact ⟨k + 1, _, by go_num, by omega, (by first | rfl | exact World.drewN_drewN _ _ _)⟩
      case measure => simp [intOf]; omega
    · have hl : ¬ ((k : Int) < ls.length) := by omega
      go_wp2
      go_ret
      exact ⟨rfl, below_drewN hB _⟩
end Go.Proofs.YtpedbdicjgdgkaaGreat
