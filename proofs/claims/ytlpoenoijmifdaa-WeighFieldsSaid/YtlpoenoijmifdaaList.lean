import Derived.Test.YtlpoenoijmifdaaCmp
import Derived.WalkSpells
set_option linter.unusedVariables false
set_option linter.unusedSimpArgs false
namespace Go.Proofs.Ytlpoenoijmifdaa
open Go.RowKit

/-- The slice value v reads as the integers xs (kind int); its cells lie below block number B. -/
def IsLB (B : Nat) (w : World) (v : Value) (xs : List Int) : Prop :=
  ∃ a cap, v = .slice a xs.length cap ∧ xs.length ≤ cap ∧ cap ≤ maxLen ∧ (∀ x ∈ xs, FB x) ∧
    (xs ≠ [] → ∃ b off, a = some ⟨b, off, none⟩ ∧ b < B ∧ ∀ i, i < xs.length → w.cell? ⟨b, off + i, none⟩ = some (.int .i64 (xs[i]?.getD 0)))

def IsL (w : World) (v : Value) (xs : List Int) : Prop := IsLB w.heap.size w v xs

theorem IsLB.keep {B : Nat} {w w' : World} {v : Value} {xs : List Int} (h : IsLB B w v xs) (hk : ∀ p : Addr, p.block < B → w'.cell? p = w.cell? p) : IsLB B w' v xs := by
  obtain ⟨a, cap, hv, h1, h2, h3, h4⟩ := h
  refine ⟨a, cap, hv, h1, h2, h3, fun hne => ?_⟩
  obtain ⟨b, off, ha, hlt, hc⟩ := h4 hne
  exact ⟨b, off, ha, hlt, fun i hi => by rw [hk ⟨b, off + i, none⟩ hlt]; exact hc i hi⟩

theorem IsLB.more {B B' : Nat} {w : World} {v : Value} {xs : List Int} (h : IsLB B w v xs) (hB : B ≤ B') : IsLB B' w v xs := by
  obtain ⟨a, cap, hv, h1, h2, h3, h4⟩ := h
  refine ⟨a, cap, hv, h1, h2, h3, fun hne => ?_⟩
  obtain ⟨b, off, ha, hlt, hc⟩ := h4 hne
  exact ⟨b, off, ha, by omega, hc⟩

theorem IsLB.below {B : Nat} {w w' : World} {v : Value} {xs : List Int} (h : IsLB B w v xs) (hb : Below B w w') : IsLB B w' v xs := h.keep fun _ hp => hb.cell hp
theorem IsLB.drewN {B : Nat} {w : World} {v : Value} {xs : List Int} (h : IsLB B w v xs) (n : Nat) : IsLB B (w.drewN n) v xs := h
theorem IsL.drewN {w : World} {v : Value} {xs : List Int} (h : IsL w v xs) (n : Nat) : IsL (w.drewN n) v xs := h
theorem IsLB.isL {B : Nat} {w : World} {v : Value} {xs : List Int} (h : IsLB B w v xs) (hB : B ≤ w.heap.size) : IsL w v xs := h.more hB
theorem IsL.below {w w' : World} {v : Value} {xs : List Int} (h : IsL w v xs) (hb : Below w.heap.size w w') : IsL w' v xs := IsLB.isL (IsLB.below h hb) hb.size

theorem take_all {α : Type} (p : α → Bool) (xs : List α) (k : Nat) (h : k < xs.length) : (xs.take (k + 1)).all p = ((xs.take k).all p && p xs[k]) := by
  rw [List.take_succ_eq_append_getElem h, List.all_append]; simp

theorem all_false {α : Type} (p : α → Bool) (xs : List α) (k : Nat) (h : k < xs.length) (hp : p xs[k] = false) : xs.all p = false := by
  rw [Bool.eq_false_iff]; intro h'; rw [List.all_eq_true] at h'; have := h' _ (List.getElem_mem h); rw [hp] at this; cases this

theorem ret_bool {a b : Bool} (h : a = b) : Ending.returned (.bool a) = .returned (.bool b) := by rw [h]

def inB (lo hi x : Int) : Bool := decide (lo ≤ x ∧ x ≤ hi)
theorem inB_t {lo hi x : Int} (h : lo ≤ x ∧ x ≤ hi) : inB lo hi x = true := by simp [inB, h]
theorem inB_f {lo hi x : Int} (h : ¬ (lo ≤ x ∧ x ≤ hi)) : inB lo hi x = false := by unfold inB; simp only [decide_eq_false_iff_not]; exact h

set_option maxHeartbeats 400000 in
theorem within_w (a : Option Addr) (n cap : Nat) (xs : List Int) (lo hi : Int) (w : World) (h : IsL w (.slice a n cap) xs) :
    Calls Try.prog 71 #[.slice a n cap, .int .i64 lo, .int .i64 hi] w fun e w' => e = .returned (.bool (xs.all (inB lo hi))) ∧ w = w' := by
  obtain ⟨a', cap', hv, h1, h2, h3, h4⟩ := h
  cases hv
  unfold maxLen at h2
  go_enter Try.func71, Try.ntmps71
  go_wp2
  go_loop [11] (fun i => ∃ k : Nat, i = .int .i64 k ∧ k ≤ xs.length ∧ Hid ((xs.take k).all (inB lo hi) = true)) (fun i => xs.length - (intOf i).toNat)
  case atStart => exact ⟨0, rfl, Nat.zero_le _, hide (by simp)⟩
  case round =>
    obtain ⟨k, rfl, hk, hall⟩ := hrel
    by_cases hlt : k < xs.length
    · obtain ⟨b, off, rfl, hbl, hc⟩ := h4 (by intro h; subst h; simp at hlt)
      have hck := hc k hlt
      have hx : xs[k]?.getD 0 = xs[k] := by simp [hlt]
      rw [hx] at hck
      obtain ⟨x, hxk⟩ : ∃ x, xs[k] = x := ⟨_, rfl⟩
      rw [hxk] at hck
      clear hx hc h3
      have HX := hide hxk; clear hxk
      by_cases hr : lo ≤ x ∧ x ≤ hi
      · have HN : Hid ((xs.take (k + 1)).all (inB lo hi) = true) := by show _ = _; rw [take_all _ _ _ hlt, hall.out, HX.out, inB_t hr]; rfl
        obtain ⟨hr1, hr2⟩ := hr
        go_wp2
        go_round
        case rel => exact ⟨k + 1, by go_num, by omega, HN⟩
        case measure => simp [intOf]; omega
      · have HN : Hid (xs.all (inB lo hi) = false) := all_false _ _ k hlt (by rw [HX.out]; exact inB_f hr)
        by_cases hr1 : x < lo
        · go_wp2
          go_ret
          exact ⟨ret_bool HN.out.symm, rfl⟩
        · have hr2 : hi < x := by omega
          go_wp2
          go_ret
          exact ⟨ret_bool HN.out.symm, rfl⟩
    · have hkl : k = xs.length := by omega
      have HN : Hid (xs.all (inB lo hi) = true) := by have := hall.out; rw [List.take_of_length_le (by omega)] at this; exact this
      clear hkl
      go_wp2
      go_ret
      exact ⟨ret_bool HN.out.symm, rfl⟩
end Go.Proofs.Ytlpoenoijmifdaa
