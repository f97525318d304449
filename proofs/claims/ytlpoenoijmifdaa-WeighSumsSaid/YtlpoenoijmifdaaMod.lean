import Derived.Test.YtlpoenoijmifdaaList
import Derived.Test.YtlpoenoijmifdaaMath
set_option linter.unusedVariables false
set_option linter.unusedSimpArgs false
namespace Go.Proofs.Ytlpoenoijmifdaa
open Go.RowKit

theorem mod_eq (n m : Int) (hm : 0 < m) : (n.tmod m + m) % m = n % m := by
  have h := Int.tmod_def n m
  rw [h, show n - m * n.tdiv m + m = n + m * (1 - n.tdiv m) by rw [Int.mul_sub, Int.mul_one]; omega]
  exact Int.add_mul_emod_self_left ..
theorem tmod_bd (n m : Int) (hm : 0 < m) : -m < n.tmod m ∧ n.tmod m < m := by
  have h1 := Int.natAbs_tmod n m
  have h2 := Nat.mod_lt n.natAbs (show 0 < m.natAbs by omega)
  omega

set_option maxHeartbeats 400000 in
theorem mod_w (n m : Int) (w : World) (hn : FB n) (_h1 : 1 ≤ m) (_h2 : m ≤ 1000000000000000000) :
    Calls Try.prog 52 #[.int .i64 n, .int .i64 m] w fun e w' => e = .returned (.int .i64 (n % m)) ∧ w = w' := by
  obtain ⟨_h3, _h4⟩ := hn
  obtain ⟨_h5, _h6⟩ := tmod_bd n m (by omega)
  have hm := mod_eq n m (by omega)
  have hz : (m == 0) = false := by simp; omega
  have HM := hide hm; clear hm
  by_cases hn0 : 0 ≤ n
  · have he : n.tmod m = n % m := Int.tmod_eq_emod_of_nonneg hn0
    rw [he] at _h5 _h6
    have _h7 : 0 ≤ n % m + m := by omega
    have _h8 : n % m + m ≤ 9000000000000000000 := by omega
    have HE := hide he; clear he
    go_enter Try.func52, Try.ntmps52
    go_wp2
    go_ret
    exact ⟨ret_int (by have := HM.out; rw [HE.out] at this; exact this), rfl⟩
  · have _h7 : 0 ≤ n.tmod m + m := by omega
    have _h8 : n.tmod m + m ≤ 9000000000000000000 := by omega
    go_enter Try.func52, Try.ntmps52
    go_wp2
    go_ret
    exact ⟨ret_int (by have := HM.out; rw [Int.add_emod_right] at this; exact this), rfl⟩

/-- The number of a list with an index modulo its length; 0 if there is none. -/
def atM (xs : List Int) (i : Int) : Int := if xs.length = 0 then 0 else at_ xs (i % xs.length).toNat
theorem at_FB {xs : List Int} (h : ∀ x ∈ xs, FB x) (i : Nat) : FB (at_ xs i) := by
  unfold at_
  by_cases hi : i < xs.length
  · rw [List.getElem?_eq_getElem hi]; exact h _ (List.getElem_mem hi)
  · rw [List.getElem?_eq_none (by omega)]; exact ⟨by decide, by decide⟩
theorem atM_FB {xs : List Int} (h : ∀ x ∈ xs, FB x) (i : Int) : FB (atM xs i) := by
  unfold atM; split
  · exact ⟨by decide, by decide⟩
  · exact at_FB h _

set_option maxHeartbeats 400000 in
theorem at_w (a : Option Addr) (n cap : Nat) (xs : List Int) (i : Int) (w : World) (h : IsL w (.slice a n cap) xs) (hi : FB i) (hm : xs.length ≤ 1000000000000000000) :
    Calls Try.prog 55 #[.slice a n cap, .int .i64 i] w fun e w' => e = .returned (.int .i64 (atM xs i)) ∧ w = w' := by
  obtain ⟨a', cap', hv, hl1, hl2, h3, h4⟩ := h
  cases hv
  by_cases h0 : xs.length = 0
  · have e : Hid (atM xs i = 0) := by show _ = _; unfold atM; rw [if_pos h0]
    have hb : (((xs.length : Nat) : Int) == 0) = true := by simpa using h0
    clear h3 h4
    go_enter Try.func55, Try.ntmps55
    go_wp2_with fail
    go_ret
    exact ⟨ret_int e.out.symm, rfl⟩
  · have e : Hid (atM xs i = at_ xs (i % xs.length).toNat) := by show _ = _; unfold atM; rw [if_neg h0]
    have hb : (((xs.length : Nat) : Int) == 0) = false := by simp; intro h; subst h; simp at h0
    obtain ⟨b, off, rfl, hbl, hc⟩ := h4 (by intro h; subst h; simp at h0)
    have b1 := Int.emod_nonneg i (show (xs.length : Int) ≠ 0 by omega)
    have b2 := Int.emod_lt_of_pos i (show (0 : Int) < xs.length by omega)
    obtain ⟨k, hk⟩ : ∃ k : Nat, i % (xs.length : Int) = (k : Int) := ⟨(i % (xs.length : Int)).toNat, by omega⟩
    have M := fun W => mod_w i xs.length W hi (by omega) (by omega)
    rw [hk] at M b1 b2
    have hck : w.cell? ⟨b, off + k, none⟩ = some (.int .i64 (at_ xs k)) := hc k (by omega)
    have E2 : Hid (atM xs i = at_ xs k) := by show _ = _; rw [e.out, hk, Int.toNat_natCast]
    have MM := hide M
    clear M hc hk e h3 h4
    go_enter Try.func55, Try.ntmps55
    go_wp2_with (go_at_call 52; refine (MM.out _).mono ?_; rintro e w' ⟨rfl, rfl⟩)
    go_ret
    exact ⟨ret_int E2.out.symm, rfl⟩
end Go.Proofs.Ytlpoenoijmifdaa
