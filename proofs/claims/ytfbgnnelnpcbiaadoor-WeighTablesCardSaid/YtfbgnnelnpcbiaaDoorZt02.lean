import Derived.Test.YtfbgnnelnpcbiaaDoorZt01
import Derived.Laws.OwnMore
import Derived.Laws.Rows
import Derived.RegionTactic
import Derived.ChangeAlike
set_option linter.unusedVariables false
set_option linter.unusedSimpArgs false
/- Plain words for chapter 1: how intervals are taken together, and the weights. No program here. -/
namespace Go.Proofs.YtfbgnnelnpcbiaaDoor

/-- One interval is k times the other one, for k = 1, 2 or 3; otherwise 0. -/
def rat (a b : Int) : Int := if a = b then 1 else if b = 2 * a ∨ a = 2 * b then 2 else if b = 3 * a ∨ a = 3 * b then 3 else 0

/-- The position with an index. -/
def at_ (xs : List Int) (i : Nat) : Int := xs[i]?.getD 0

/-- How many intervals are taken together from the index i on. -/
def many (xs : List Int) (i : Nat) : Nat := if i + 2 < xs.length ∧ rat (at_ xs (i + 1) - at_ xs i) (at_ xs (i + 2) - at_ xs (i + 1)) ≠ 0 then 2 else 1

theorem many_or (xs : List Int) (i : Nat) : many xs i = 1 ∨ many xs i = 2 := by unfold many; split <;> simp

/-- The groups from the index i on. -/
def grF (xs : List Int) : Nat → Nat → List (Nat × Nat)
  | 0, _ => []
  | f + 1, i => if i + 1 < xs.length then (i, many xs i) :: grF xs f (i + many xs i) else []

theorem grF_end (xs : List Int) (f i : Nat) (h : ¬ i + 1 < xs.length) : grF xs f i = [] := by
  cases f with
  | zero => rfl
  | succ f => unfold grF; rw [if_neg h]

theorem grF_fuel (xs : List Int) (f : Nat) : ∀ g i, xs.length ≤ i + f → xs.length ≤ i + g → grF xs f i = grF xs g i := by
  induction f with
  | zero => intro g i hf _; rw [grF_end xs g i (by omega)]; rfl
  | succ f ih =>
    intro g i hf hg
    by_cases h : i + 1 < xs.length
    · obtain ⟨g, rfl⟩ : ∃ k, g = k + 1 := ⟨g - 1, by omega⟩
      have := many_or xs i
      unfold grF
      rw [if_pos h, if_pos h, ih g (i + many xs i) (by omega) (by omega)]
    · rw [grF_end _ _ _ h, grF_end _ _ _ h]

/-- The groups from the index i on, with fuel enough. -/
def grsFrom (xs : List Int) (i : Nat) : List (Nat × Nat) := grF xs xs.length i
def grs (xs : List Int) : List (Nat × Nat) := grsFrom xs 0

theorem grsFrom_step (xs : List Int) (i : Nat) (h : i + 1 < xs.length) : grsFrom xs i = (i, many xs i) :: grsFrom xs (i + many xs i) := by
  unfold grsFrom
  obtain ⟨n, hn⟩ : ∃ n, xs.length = n + 1 := ⟨xs.length - 1, by omega⟩
  have := many_or xs i
  rw [hn]
  rw [grF, if_pos (by omega), grF_fuel xs n (n + 1) (i + many xs i) (by omega) (by omega)]

theorem grsFrom_end (xs : List Int) (i : Nat) (h : ¬ i + 1 < xs.length) : grsFrom xs i = [] := grF_end _ _ _ h

theorem grF_bd (xs : List Int) (f : Nat) : ∀ i, ∀ g ∈ grF xs f i, i ≤ g.1 ∧ g.1 + g.2 < xs.length ∧ (g.2 = 1 ∨ g.2 = 2) ∧ g.2 = many xs g.1 := by
  induction f with
  | zero => intro i g hg; simp [grF] at hg
  | succ f ih =>
    intro i g hg
    unfold grF at hg
    split at hg
    · rename_i h
      rcases List.mem_cons.1 hg with rfl | hg
      · refine ⟨Nat.le_refl _, ?_, many_or xs i, rfl⟩
        show i + many xs i < xs.length
        unfold many; split <;> omega
      · have := ih _ g hg
        exact ⟨by have := many_or xs i; omega, this.2⟩
    · simp at hg

theorem grF_len (xs : List Int) (f : Nat) : ∀ i, (grF xs f i).length ≤ xs.length - 1 - i := by
  induction f with
  | zero => intro i; simp [grF]
  | succ f ih =>
    intro i
    unfold grF
    split
    · rename_i h
      have := ih (i + many xs i)
      have := many_or xs i
      simp only [List.length_cons]; omega
    · simp

/-- What a group adds to the weights: at which index, how much. -/
def con (xs : List Int) (g : Nat × Nat) : List (Nat × Int) :=
  let a := at_ xs (g.1 + 1) - at_ xs g.1
  if g.2 = 1 then [(g.1, 18 * a), (g.1 + 1, 18 * a)]
  else
    let b := at_ xs (g.1 + 2) - at_ xs (g.1 + 1)
    let k := rat a b
    let c := 6 / k * (1 + k) * min a b
    let one := if b < a then c * (2 * k - 1) else c * k * (2 - k)
    let two := if b < a then c * k * (2 - k) else c * (2 * k - 1)
    [(g.1, one), (g.1 + 1, c * (1 + k) * (1 + k)), (g.1 + 2, two)]

def cons (xs : List Int) : List (Nat × Int) := (grs xs).flatMap (con xs)

/-- A weight is added at an index. -/
def addW (l : List Int) (p : Nat × Int) : List Int := l.set p.1 (at_ l p.1 + p.2)
def wts (xs : List Int) : List Int := (cons xs).foldl addW (List.replicate xs.length 0)
/-- The sum of all weights times values. -/
def sumP (vs : List Int) (s : Int) (p : Nat × Int) : Int := s + p.2 * at_ vs p.1
def dot (xs vs : List Int) : Int := (cons xs).foldl (sumP vs) 0
end Go.Proofs.YtfbgnnelnpcbiaaDoor

namespace Go.Proofs.YtfbgnnelnpcbiaaDoor
open Go.RowKit

theorem rat_of {a b k : Int} (ha : 1 ≤ a) (hb : 1 ≤ b) (hk : k = 1 ∨ k = 2 ∨ k = 3) (h : b = k * a ∨ a = k * b) : rat a b = k := by
  unfold rat
  rcases hk with rfl | rfl | rfl <;> (repeat' split) <;> omega

theorem rat_no {a b : Int} (h1 : ¬ (b = a)) (h2 : ¬ (b = 2 * a)) (h2' : ¬ (a = 2 * b)) (h3 : ¬ (b = 3 * a)) (h3' : ¬ (a = 3 * b)) : rat a b = 0 := by
  unfold rat; (repeat' split) <;> omega

theorem rat_or (a b : Int) : rat a b = 0 ∨ rat a b = 1 ∨ rat a b = 2 ∨ rat a b = 3 := by
  unfold rat; (repeat' split) <;> omega

theorem rat_sym (a b : Int) : rat a b = rat b a := by
  unfold rat; (repeat' split) <;> omega

set_option maxHeartbeats 1000000 in
theorem ratio_lt (a b : Int) (w : World) (_ha : 1 ≤ a) (_ha2 : a ≤ 100000) (_hb : 1 ≤ b) (_hb2 : b ≤ 100000) (hab : a < b) :
    Calls Tryd.prog 66 #[.int .i64 a, .int .i64 b] w fun e w' => e = .returned (.int .i64 (rat a b)) ∧ w = w' := by
  go_enter Tryd.func66, Tryd.ntmps66
  go_wp2
  go_loop [7] (fun i => ∃ k : Int, i = .int .i64 k ∧ (k = 1 ∨ k = 2 ∨ k = 3 ∧ ¬ (b = 2 * a) ∨ k = 4 ∧ ¬ (b = 2 * a) ∧ ¬ (b = 3 * a))) (fun i => (4 - intOf i).toNat)
  case atStart => exact ⟨1, rfl, .inl rfl⟩
  case round =>
    obtain ⟨k, rfl, hk⟩ := hrel
    rcases hk with rfl | rfl | ⟨rfl, h2⟩ | ⟨rfl, h2, h3⟩
    · have e1 : (b == a) = false := by simp; omega
      go_wp2
      go_round
      case rel => exact ⟨2, rfl, .inr (.inl rfl)⟩
      case measure => simp [intOf]
    · by_cases h : b = 2 * a
      · have HN := hide (rat_of (a := a) (b := b) (k := 2) _ha _hb (by omega) (.inl h))
        have e1 : (b == 2 * a) = true := by simpa using h
        clear h
        go_wp2
        go_ret
        exact ⟨ret_int HN.out.symm, rfl⟩
      · have e1 : (b == 2 * a) = false := by simpa using h
        go_wp2
        go_round
        case rel => exact ⟨3, rfl, .inr (.inr (.inl ⟨rfl, h⟩))⟩
        case measure => simp [intOf]
    · by_cases h : b = 3 * a
      · have HN := hide (rat_of (a := a) (b := b) (k := 3) _ha _hb (by omega) (.inl h))
        have e1 : (b == 3 * a) = true := by simpa using h
        clear h
        go_wp2
        go_ret
        exact ⟨ret_int HN.out.symm, rfl⟩
      · have e1 : (b == 3 * a) = false := by simpa using h
        go_wp2
        go_round
        case rel => exact ⟨4, rfl, .inr (.inr (.inr ⟨rfl, h2, h⟩))⟩
        case measure => simp [intOf]
    · have HN := hide (rat_no (a := a) (b := b) (by omega) h2 (by omega) h3 (by omega))
      go_wp2
      go_ret
      exact ⟨ret_int HN.out.symm, rfl⟩

set_option maxHeartbeats 1000000 in
theorem ratio_eq (a : Int) (w : World) (_ha : 1 ≤ a) (_ha2 : a ≤ 100000) :
    Calls Tryd.prog 66 #[.int .i64 a, .int .i64 a] w fun e w' => e = .returned (.int .i64 1) ∧ w = w' := by
  go_enter Tryd.func66, Tryd.ntmps66
  go_wp2
  go_loop [7] (fun i => i = .int .i64 1) (fun i => (4 - intOf i).toNat)
  case atStart => rfl
  case round =>
    subst hrel
    go_wp2
    go_ret
    exact ⟨rfl, rfl⟩

set_option maxHeartbeats 1000000 in
theorem ratio_gt (a b : Int) (w : World) (_ha : 1 ≤ a) (_ha2 : a ≤ 100000) (_hb : 1 ≤ b) (_hb2 : b ≤ 100000) (hab : b < a) :
    Calls Tryd.prog 66 #[.int .i64 a, .int .i64 b] w fun e w' => e = .returned (.int .i64 (rat a b)) ∧ w = w' := by
  go_enter Tryd.func66, Tryd.ntmps66
  go_wp2
  go_loop [7] (fun i => ∃ k : Int, i = .int .i64 k ∧ (k = 1 ∨ k = 2 ∨ k = 3 ∧ ¬ (a = 2 * b) ∨ k = 4 ∧ ¬ (a = 2 * b) ∧ ¬ (a = 3 * b))) (fun i => (4 - intOf i).toNat)
  case atStart => exact ⟨1, rfl, .inl rfl⟩
  case round =>
    obtain ⟨k, rfl, hk⟩ := hrel
    rcases hk with rfl | rfl | ⟨rfl, h2⟩ | ⟨rfl, h2, h3⟩
    · have e1 : (a == b) = false := by simp; omega
      go_wp2
      go_round
      case rel => exact ⟨2, rfl, .inr (.inl rfl)⟩
      case measure => simp [intOf]
    · by_cases h : a = 2 * b
      · have HN := hide (rat_of (a := a) (b := b) (k := 2) _ha _hb (by omega) (.inr h))
        have e1 : (a == 2 * b) = true := by simpa using h
        clear h
        go_wp2
        go_ret
        exact ⟨ret_int HN.out.symm, rfl⟩
      · have e1 : (a == 2 * b) = false := by simpa using h
        go_wp2
        go_round
        case rel => exact ⟨3, rfl, .inr (.inr (.inl ⟨rfl, h⟩))⟩
        case measure => simp [intOf]
    · by_cases h : a = 3 * b
      · have HN := hide (rat_of (a := a) (b := b) (k := 3) _ha _hb (by omega) (.inr h))
        have e1 : (a == 3 * b) = true := by simpa using h
        clear h
        go_wp2
        go_ret
        exact ⟨ret_int HN.out.symm, rfl⟩
      · have e1 : (a == 3 * b) = false := by simpa using h
        go_wp2
        go_round
        case rel => exact ⟨4, rfl, .inr (.inr (.inr ⟨rfl, h2, h⟩))⟩
        case measure => simp [intOf]
    · have HN := hide (rat_no (a := a) (b := b) (by omega) (by omega) h2 (by omega) h3)
      go_wp2
      go_ret
      exact ⟨ret_int HN.out.symm, rfl⟩


theorem ratio_w (a b : Int) (w : World) (_ha : 1 ≤ a) (_ha2 : a ≤ 100000) (_hb : 1 ≤ b) (_hb2 : b ≤ 100000) :
    Calls Tryd.prog 66 #[.int .i64 a, .int .i64 b] w fun e w' => e = .returned (.int .i64 (rat a b)) ∧ w = w' := by
  rcases Int.lt_trichotomy a b with h | h | h
  · exact ratio_lt a b w _ha _ha2 _hb _hb2 h
  · subst h; rw [show rat a a = 1 by simp [rat]]; exact ratio_eq a w _ha _ha2
  · exact ratio_gt a b w _ha _ha2 _hb _hb2 h

set_option maxHeartbeats 1000000 in
theorem times_w (a b : Int) (w : World) (_ha : 1 ≤ a) (_ha2 : a ≤ 100000) (_hb : 1 ≤ b) (_hb2 : b ≤ 100000) :
    Calls Tryd.prog 39 #[.int .i64 a, .int .i64 b] w fun e w' => e = .returned (.int .i64 (rat a b)) ∧ w = w' := by
  go_enter Tryd.func39, Tryd.ntmps39
  go_wp2
  go_loop [5] (fun i => ∃ k : Int, i = .int .i64 k ∧ (k = 1 ∨ k = 2 ∧ ¬ (b = a) ∨ k = 3 ∧ ¬ (b = a) ∧ ¬ (b = 2 * a) ∧ ¬ (a = 2 * b) ∨ k = 4 ∧ ¬ (b = a) ∧ ¬ (b = 2 * a) ∧ ¬ (a = 2 * b) ∧ ¬ (b = 3 * a) ∧ ¬ (a = 3 * b))) (fun i => (4 - intOf i).toNat)
  case atStart => exact ⟨1, rfl, .inl rfl⟩
  case round =>
    obtain ⟨k, rfl, hk⟩ := hrel
    rcases hk with rfl | ⟨rfl, h1⟩ | ⟨rfl, h1, h2, h2'⟩ | ⟨rfl, h1, h2, h2', h3, h3'⟩
    · by_cases h : b = a
      · subst h
        have HN := hide (rat_of (a := b) (b := b) (k := 1) _ha _hb (by omega) (by omega))
        go_wp2
        go_ret
        exact ⟨ret_int HN.out.symm, rfl⟩
      · have e1 : (a == b) = false := by simp; omega
        have e2 : (b == a) = false := by simp; omega
        go_wp2
        go_round
        case rel => exact ⟨2, rfl, .inr (.inl ⟨rfl, h⟩)⟩
        case measure => simp [intOf]
    · by_cases h : b = a * 2
      · have HN := hide (rat_of (a := a) (b := b) (k := 2) _ha _hb (by omega) (by omega))
        have e1 : (a * 2 == b) = true := by simp; omega
        clear h
        go_wp2
        go_ret
        exact ⟨ret_int HN.out.symm, rfl⟩
      by_cases h' : a = b * 2
      · have HN := hide (rat_of (a := a) (b := b) (k := 2) _ha _hb (by omega) (by omega))
        have e1 : (a * 2 == b) = false := by simp; omega
        have e2 : (b * 2 == a) = true := by simp; omega
        clear h h'
        go_wp2
        go_ret
        exact ⟨ret_int HN.out.symm, rfl⟩
      · have e1 : (a * 2 == b) = false := by simp; omega
        have e2 : (b * 2 == a) = false := by simp; omega
        go_wp2
        go_round
        case rel => exact ⟨3, rfl, .inr (.inr (.inl ⟨rfl, by omega, by omega, by omega⟩))⟩
        case measure => simp [intOf]
    · by_cases h : b = a * 3
      · have HN := hide (rat_of (a := a) (b := b) (k := 3) _ha _hb (by omega) (by omega))
        have e1 : (a * 3 == b) = true := by simp; omega
        clear h
        go_wp2
        go_ret
        exact ⟨ret_int HN.out.symm, rfl⟩
      by_cases h' : a = b * 3
      · have HN := hide (rat_of (a := a) (b := b) (k := 3) _ha _hb (by omega) (by omega))
        have e1 : (a * 3 == b) = false := by simp; omega
        have e2 : (b * 3 == a) = true := by simp; omega
        clear h h'
        go_wp2
        go_ret
        exact ⟨ret_int HN.out.symm, rfl⟩
      · have e1 : (a * 3 == b) = false := by simp; omega
        have e2 : (b * 3 == a) = false := by simp; omega
        go_wp2
        go_round
        case rel => exact ⟨4, rfl, .inr (.inr (.inr ⟨rfl, by omega, by omega, by omega, by omega, by omega⟩))⟩
        case measure => simp [intOf]
    · have HN := hide (rat_no (a := a) (b := b) h1 h2 h2' h3 h3')
      go_wp2
      go_ret
      exact ⟨ret_int HN.out.symm, rfl⟩
end Go.Proofs.YtfbgnnelnpcbiaaDoor

namespace Go.Proofs.YtfbgnnelnpcbiaaDoor
open Go.RowKit

/-- Valid positions, said of each index. -/
structure Pos (xs : List Int) : Prop where
  lo : 2 ≤ xs.length
  hi : xs.length ≤ 9
  bd : ∀ i, i < xs.length → 0 ≤ at_ xs i ∧ at_ xs i ≤ 100000
  up : ∀ i, i + 1 < xs.length → at_ xs i < at_ xs (i + 1)

theorem at_get {xs : List Int} {i : Nat} (h : i < xs.length) : at_ xs i = xs[i] := by simp [at_, h]

theorem Pos.of {xs : List Int} (h : rise 9 100000 xs = true) : Pos xs := by
  unfold rise at h
  simp only [Bool.and_eq_true, decide_eq_true_eq] at h
  obtain ⟨⟨⟨h1, h2⟩, h3⟩, h4⟩ := h
  refine ⟨by omega, by omega, fun i hi => ?_, fun i hi => ?_⟩
  · rw [List.all_eq_true] at h3
    have := h3 _ (List.getElem_mem hi)
    rw [at_get hi]
    simpa [inB] using this
  · unfold incTo at h4
    rw [List.all_eq_true] at h4
    have := h4 i (List.mem_range.2 (by omega))
    simpa [at_] using this

/-- The slice value v reads as groups. -/
def IsGB (B : Nat) (w : World) (v : Value) (gs : List (Nat × Nat)) : Prop :=
  ∃ a cap, v = .slice a gs.length cap ∧ gs.length ≤ cap ∧ cap ≤ maxLen ∧
    (gs ≠ [] → ∃ b off, a = some ⟨b, off, none⟩ ∧ b < B ∧ ∀ i, i < gs.length → w.cell? ⟨b, off + i * 2, none⟩ = some (.int .i64 ((gs[i]?.getD (0, 0)).1 : Nat)) ∧ w.cell? ⟨b, off + i * 2 + 1, none⟩ = some (.int .i64 ((gs[i]?.getD (0, 0)).2 : Nat)))

theorem IsGB.keep {B : Nat} {w w' : World} {v : Value} {gs : List (Nat × Nat)} (h : IsGB B w v gs) (hk : ∀ p : Addr, p.block < B → w'.cell? p = w.cell? p) : IsGB B w' v gs := by
  obtain ⟨a, cap, hv, h1, h2, h4⟩ := h
  refine ⟨a, cap, hv, h1, h2, fun hne => ?_⟩
  obtain ⟨b, off, ha, hlt, hc⟩ := h4 hne
  exact ⟨b, off, ha, hlt, fun i hi => ⟨by rw [hk ⟨b, off + i * 2, none⟩ hlt]; exact (hc i hi).1, by rw [hk ⟨b, off + i * 2 + 1, none⟩ hlt]; exact (hc i hi).2⟩⟩

def flatG (gs : List (Nat × Nat)) : List Value := gs.flatMap fun g => [.int .i64 (g.1 : Nat), .int .i64 (g.2 : Nat)]

theorem flatG_snoc (gs : List (Nat × Nat)) (a b : Nat) : flatG (gs ++ [(a, b)]) = flatG gs ++ [.int .i64 (a : Nat), .int .i64 (b : Nat)] := by simp [flatG]

theorem flatG_at (gs : List (Nat × Nat)) : ∀ i, i < gs.length → (flatG gs)[i * 2]? = some (.int .i64 ((gs[i]?.getD (0, 0)).1 : Nat)) ∧ (flatG gs)[i * 2 + 1]? = some (.int .i64 ((gs[i]?.getD (0, 0)).2 : Nat)) := by
  induction gs with
  | nil => intro i h; simp at h
  | cons g gs ih =>
    intro i h
    cases i with
    | zero => simp [flatG]
    | succ i =>
      have := ih i (by simpa using h)
      have e : flatG (g :: gs) = [.int .i64 (g.1 : Nat), .int .i64 (g.2 : Nat)] ++ flatG gs := by simp [flatG]
      rw [e, show (i + 1) * 2 = i * 2 + 2 by omega]
      simpa using this

theorem IsGB.of_own {base e : Nat} {w : World} {v : Value} {gs : List (Nat × Nat)} (h : w.ownsRow base e 2 v gs.length (flatG gs)) : IsGB w.heap.size w v gs := by
  have h0 := h
  obtain ⟨h1, h2⟩ := h
  rcases h2 with ⟨rfl, hn⟩ | ⟨g, cap, cur, rfl, hb, hh, hc, hm, hsz, ht⟩
  · exact ⟨none, 0, by rw [hn], by omega, Nat.zero_le _, fun hne => absurd (List.length_eq_zero_iff.1 hn) hne⟩
  · refine ⟨some ⟨g, 0, none⟩, cap, rfl, hc, hm, fun _ => ⟨g, 0, rfl, ?_, fun i hi => ?_⟩⟩
    · exact (h0.lt g rfl).2
    · have := flatG_at gs i hi
      exact ⟨by rw [Nat.zero_add, h0.cellAt _ (by omega)]; exact this.1, by rw [Nat.zero_add, h0.cellAt _ (by omega)]; exact this.2⟩

/-- The slice's block, if it has one, is none of those below B. -/
def Fresh (B : Nat) (v : Value) : Prop := ∀ k, v.ownBlock = some k → B ≤ k

theorem infoG : (Tryd.prog.info? 72).map (fun i => (i.zero, i.size, i.bytes)) = some (some (.agg #[.int .i64 0, .int .i64 0]), 2, 16) := by kernel_rfl

theorem ratio_q (a b : Int) (w : World) (h1 : 1 ≤ a) (h2 : a ≤ 100000) (h3 : 1 ≤ b) (h4 : b ≤ 100000) :
    Calls Tryd.prog 66 #[.int .i64 a, .int .i64 b] w fun e w' => e = .returned (.int .i64 (rat a b)) ∧ w' = w := (ratio_w a b w h1 h2 h3 h4).mono fun _ _ ⟨x, y⟩ => ⟨x, y.symm⟩
theorem times_q (a b : Int) (w : World) (h1 : 1 ≤ a) (h2 : a ≤ 100000) (h3 : 1 ≤ b) (h4 : b ≤ 100000) :
    Calls Tryd.prog 39 #[.int .i64 a, .int .i64 b] w fun e w' => e = .returned (.int .i64 (rat a b)) ∧ w' = w := (times_w a b w h1 h2 h3 h4).mono fun _ _ ⟨x, y⟩ => ⟨x, y.symm⟩

set_option maxRecDepth 100000 in
set_option maxHeartbeats 1000000 in
theorem groupsOf_w (a : Option Addr) (n cap : Nat) (xs : List Int) (w : World) (h : IsL w (.slice a n cap) xs) (hp : Pos xs) :
    Calls Tryd.prog 61 #[.slice a n cap] w fun e w' => ∃ v, e = .returned v ∧ IsGB w'.heap.size w' v (grs xs) ∧ Fresh w.heap.size v ∧ Below w.heap.size w w' := by
  obtain ⟨a', cap', hv, hl1, hl2, h3, h4⟩ := h
  cases hv
  unfold maxLen at hl2
  have h2 := hp.lo
  have h9 := hp.hi
  obtain ⟨b, off, rfl, hbl, hc⟩ := h4 (by intro h; subst h; simp at h2)
  have HB := hide hp.bd
  have HU := hide hp.up
  clear hp h3 h4
  obtain ⟨i0, hi, hz0, hz1, hz2⟩ := info_parts infoG
  go_enter Tryd.func61, Tryd.ntmps61
  go_wp2
  go_loopw [3, 4] (fun v i wr => ∃ (V : Value) (k : Nat) (gs : List (Nat × Nat)), V = v ∧ i = .int .i64 k ∧ k < xs.length ∧ gs.length ≤ k ∧ wr.ownsRow w.heap.size 72 2 V gs.length (flatG gs) ∧ Below w.heap.size w wr ∧ Hid (grs xs = gs ++ grsFrom xs k)) (fun _ i _ => xs.length - (intOf i).toNat)
  case atStart => exact ⟨_, 0, [], rfl, rfl, by omega, Nat.le_refl _, World.ownsRow_nil _ _ _ _, Below.refl _ _, rfl⟩
  case round =>
    obtain ⟨v, k, gs, rfl, rfl, hk, hgk, hown, hbel, hgr⟩ := hrel
    have hcw : ∀ j, j < xs.length → wr.cell? ⟨b, off + j, none⟩ = some (.int .i64 (at_ xs j)) := fun j hj => by
      rw [hbel.cell (p := ⟨b, off + j, none⟩) hbl]; exact hc j hj
    have HCW := hide hcw; clear hcw hc
    by_cases hlt : k + 1 < xs.length
    · have hl3 : (k : Int) + 1 < xs.length := by omega
      by_cases hlt2 : k + 2 < xs.length
      · have hl4 : (k : Int) + 2 < xs.length := by omega
        have c0 := HCW.out k (by omega)
        have c1 := HCW.out (k + 1) (by omega)
        have c2 := HCW.out (k + 2) (by omega)
        have u0 := HU.out k hlt
        have u1 := HU.out (k + 1) (by omega)
        have b0 := HB.out k (by omega)
        have b2 := HB.out (k + 2) (by omega)
        obtain ⟨x, hx⟩ : ∃ x, at_ xs k = x := ⟨_, rfl⟩
        obtain ⟨y, hy⟩ : ∃ x, at_ xs (k + 1) = x := ⟨_, rfl⟩
        obtain ⟨z, hz⟩ : ∃ x, at_ xs (k + 2) = x := ⟨_, rfl⟩
        have hmany : Hid (many xs k = if rat (y - x) (z - y) ≠ 0 then 2 else 1) := by
          show many xs k = _; unfold many; rw [hx, hy, hz]; simp only [hlt2, true_and]
        rw [hx] at c0 u0 b0
        rw [hy] at c1 u0 u1
        rw [hz] at c2 u1 b2
        clear hx hy hz
        obtain ⟨b0a, b0b⟩ := b0
        obtain ⟨b2a, b2b⟩ := b2
        by_cases hr : rat (y - x) (z - y) = 0
        · have hm1 : Hid (many xs k = 1) := by show _ = _; rw [hmany.out, hr]; rfl
          clear hmany
          go_wp2
          go_quiet ((go_at_call 66; exact Calls.quiet_of_same (ratio_q _ _ _ (by omega) (by omega) (by omega) (by omega))))
          have hown2 : (wr.drewN nq).ownsRow w.heap.size 72 2 v gs.length (flatG gs) := hown
          have hbel2 := below_drewN hbel nq
          clear hown hbel HCW
          generalize wr.drewN nq = w2 at hown2 hbel2 ⊢
          go_wp2_with (at_builtin; refine wpList_append_own _ rfl (.tmp 41) (.tmp 45) 69 rfl w.heap.size 72 i0 _ 2 16 Tryd.underlying69 hi hz0 hz1 hz2 rfl (by decide) _ gs.length (flatG gs) rfl (hown2.alloc _) ⟨w2.heap.size, 0, none⟩ 1 1 [.int .i64 (k : Nat), .int .i64 1] rfl rfl (cell_two_new _ _ _ _) (by simp [Value.oneCell']) (by simp only [maxLen]; omega) (by omega) (by have := hbel2.size; simp; omega) ?_; intro v' w1 hown' hgrow _)
          go_roundw
          case rel => exact ⟨_, k + 1, gs ++ [(k, 1)], rfl, by go_num, by omega, by simp; omega, by rw [List.length_append, flatG_snoc]; exact hown', (hbel2.alloc hbel2.size _).grown hgrow (by have := hbel2.size; simp; omega) (fun g hg => (hown2.lt g hg).1), hide (by rw [hgr.out, grsFrom_step xs k hlt, hm1.out]; simp)⟩
          case measure => simp [intOf]; omega
        · have hm2 : Hid (many xs k = 2) := by show _ = _; rw [hmany.out, if_pos hr]
          have hr1 : (rat (y - x) (z - y) != 0) = true := by simpa using hr
          clear hmany hr
          go_wp2
          go_quiet ((go_at_call 66; exact Calls.quiet_of_same (ratio_q _ _ _ (by omega) (by omega) (by omega) (by omega))))
          have hown2 : (wr.drewN nq).ownsRow w.heap.size 72 2 v gs.length (flatG gs) := hown
          have hbel2 := below_drewN hbel nq
          clear hown hbel HCW
          generalize wr.drewN nq = w2 at hown2 hbel2 ⊢
          go_wp2_with (at_builtin; refine wpList_append_own _ rfl (.tmp 41) (.tmp 45) 69 rfl w.heap.size 72 i0 _ 2 16 Tryd.underlying69 hi hz0 hz1 hz2 rfl (by decide) _ gs.length (flatG gs) rfl (hown2.alloc _) ⟨w2.heap.size, 0, none⟩ 1 1 [.int .i64 (k : Nat), .int .i64 2] rfl rfl (cell_two_new _ _ _ _) (by simp [Value.oneCell']) (by simp only [maxLen]; omega) (by omega) (by have := hbel2.size; simp; omega) ?_; intro v' w1 hown' hgrow _)
          go_roundw
          case rel => exact ⟨_, k + 2, gs ++ [(k, 2)], rfl, by go_num, by omega, by simp; omega, by rw [List.length_append, flatG_snoc]; exact hown', (hbel2.alloc hbel2.size _).grown hgrow (by have := hbel2.size; simp; omega) (fun g hg => (hown2.lt g hg).1), hide (by rw [hgr.out, grsFrom_step xs k hlt, hm2.out]; simp)⟩
          case measure => simp [intOf]; omega
      · have hm1 : Hid (many xs k = 1) := by show many xs k = 1; unfold many; rw [if_neg]; omega
        have hl4 : decide ((k : Int) + 2 < xs.length) = false := by simp; omega
        go_wp2
        go_quiet (fail)
        have hown2 : (wr.drewN nq).ownsRow w.heap.size 72 2 v gs.length (flatG gs) := hown
        have hbel2 := below_drewN hbel nq
        clear hown hbel HCW
        generalize wr.drewN nq = w2 at hown2 hbel2 ⊢
        go_wp2_with (at_builtin; refine wpList_append_own _ rfl (.tmp 41) (.tmp 45) 69 rfl w.heap.size 72 i0 _ 2 16 Tryd.underlying69 hi hz0 hz1 hz2 rfl (by decide) _ gs.length (flatG gs) rfl (hown2.alloc _) ⟨w2.heap.size, 0, none⟩ 1 1 [.int .i64 (k : Nat), .int .i64 1] rfl rfl (cell_two_new _ _ _ _) (by simp [Value.oneCell']) (by simp only [maxLen]; omega) (by omega) (by have := hbel2.size; simp; omega) ?_; intro v' w1 hown' hgrow _)
        go_roundw
        case rel => exact ⟨_, k + 1, gs ++ [(k, 1)], rfl, by go_num, by omega, by simp; omega, by rw [List.length_append, flatG_snoc]; exact hown', (hbel2.alloc hbel2.size _).grown hgrow (by have := hbel2.size; simp; omega) (fun g hg => (hown2.lt g hg).1), hide (by rw [hgr.out, grsFrom_step xs k hlt, hm1.out]; simp)⟩
        case measure => simp [intOf]; omega
    · have hl3 : ¬ ((k : Int) + 1 < xs.length) := by omega
      have hge : Hid (grs xs = gs) := by show _ = _; rw [hgr.out, grsFrom_end xs k hlt, List.append_nil]
      go_wp2
      go_ret
      exact ⟨_, rfl, by rw [hge.out]; exact IsGB.of_own hown, fun g hg => (hown.lt g hg).1, hbel⟩
end Go.Proofs.YtfbgnnelnpcbiaaDoor

namespace Go.Proofs.YtfbgnnelnpcbiaaDoor
open Go.RowKit

set_option maxRecDepth 100000 in
set_option maxHeartbeats 1000000 in
theorem rgroups_w (a : Option Addr) (n cap : Nat) (xs : List Int) (w : World) (h : IsL w (.slice a n cap) xs) (hp : Pos xs) :
    Calls Tryd.prog 38 #[.slice a n cap] w fun e w' => ∃ v, e = .returned v ∧ IsGB w'.heap.size w' v (grs xs) ∧ Fresh w.heap.size v ∧ Below w.heap.size w w' := by
  obtain ⟨a', cap', hv, hl1, hl2, h3, h4⟩ := h
  cases hv
  unfold maxLen at hl2
  have h2 := hp.lo
  have h9 := hp.hi
  obtain ⟨b, off, rfl, hbl, hc⟩ := h4 (by intro h; subst h; simp at h2)
  have HB := hide hp.bd
  have HU := hide hp.up
  clear hp h3 h4
  obtain ⟨i0, hi, hz0, hz1, hz2⟩ := info_parts infoG
  go_enter Tryd.func38, Tryd.ntmps38
  go_wp2
  go_loopw [3, 4] (fun v i wr => ∃ (V : Value) (k : Nat) (gs : List (Nat × Nat)), V = v ∧ i = .int .i64 k ∧ k < xs.length ∧ gs.length ≤ k ∧ wr.ownsRow w.heap.size 72 2 V gs.length (flatG gs) ∧ Below w.heap.size w wr ∧ Hid (grs xs = gs ++ grsFrom xs k)) (fun _ i _ => xs.length - (intOf i).toNat)
  case atStart => exact ⟨_, 0, [], rfl, rfl, by omega, Nat.le_refl _, World.ownsRow_nil _ _ _ _, Below.refl _ _, rfl⟩
  case round =>
    obtain ⟨v, k, gs, rfl, rfl, hk, hgk, hown, hbel, hgr⟩ := hrel
    have hcw : ∀ j, j < xs.length → wr.cell? ⟨b, off + j, none⟩ = some (.int .i64 (at_ xs j)) := fun j hj => by
      rw [hbel.cell (p := ⟨b, off + j, none⟩) hbl]; exact hc j hj
    have HCW := hide hcw; clear hcw hc
    by_cases hlt : k + 1 < xs.length
    · have hl3 : (k : Int) + 1 < xs.length := by omega
      by_cases hlt2 : k + 2 < xs.length
      · have hl4 : (k : Int) + 2 < xs.length := by omega
        have c0 := HCW.out k (by omega)
        have c1 := HCW.out (k + 1) (by omega)
        have c2 := HCW.out (k + 2) (by omega)
        have u0 := HU.out k hlt
        have u1 := HU.out (k + 1) (by omega)
        have b0 := HB.out k (by omega)
        have b2 := HB.out (k + 2) (by omega)
        obtain ⟨x, hx⟩ : ∃ x, at_ xs k = x := ⟨_, rfl⟩
        obtain ⟨y, hy⟩ : ∃ x, at_ xs (k + 1) = x := ⟨_, rfl⟩
        obtain ⟨z, hz⟩ : ∃ x, at_ xs (k + 2) = x := ⟨_, rfl⟩
        have hmany : Hid (many xs k = if rat (y - x) (z - y) ≠ 0 then 2 else 1) := by
          show many xs k = _; unfold many; rw [hx, hy, hz]; simp only [hlt2, true_and]
        rw [hx] at c0 u0 b0
        rw [hy] at c1 u0 u1
        rw [hz] at c2 u1 b2
        clear hx hy hz
        obtain ⟨b0a, b0b⟩ := b0
        obtain ⟨b2a, b2b⟩ := b2
        by_cases hr : rat (y - x) (z - y) = 0
        · have hm1 : Hid (many xs k = 1) := by show _ = _; rw [hmany.out, hr]; rfl
          clear hmany
          go_wp2
          go_quiet ((go_at_call 39; exact Calls.quiet_of_same (times_q _ _ _ (by omega) (by omega) (by omega) (by omega))))
          have hown2 : (wr.drewN nq).ownsRow w.heap.size 72 2 v gs.length (flatG gs) := hown
          have hbel2 := below_drewN hbel nq
          clear hown hbel HCW
          generalize wr.drewN nq = w2 at hown2 hbel2 ⊢
          go_wp2_with (at_builtin; refine wpList_append_own _ rfl (.tmp 41) (.tmp 45) 69 rfl w.heap.size 72 i0 _ 2 16 Tryd.underlying69 hi hz0 hz1 hz2 rfl (by decide) _ gs.length (flatG gs) rfl (hown2.alloc _) ⟨w2.heap.size, 0, none⟩ 1 1 [.int .i64 (k : Nat), .int .i64 1] rfl rfl (cell_two_new _ _ _ _) (by simp [Value.oneCell']) (by simp only [maxLen]; omega) (by omega) (by have := hbel2.size; simp; omega) ?_; intro v' w1 hown' hgrow _)
          go_roundw
          case rel => exact ⟨_, k + 1, gs ++ [(k, 1)], rfl, by go_num, by omega, by simp; omega, by rw [List.length_append, flatG_snoc]; exact hown', (hbel2.alloc hbel2.size _).grown hgrow (by have := hbel2.size; simp; omega) (fun g hg => (hown2.lt g hg).1), hide (by rw [hgr.out, grsFrom_step xs k hlt, hm1.out]; simp)⟩
          case measure => simp [intOf]; omega
        · have hm2 : Hid (many xs k = 2) := by show _ = _; rw [hmany.out, if_pos hr]
          have hr1 : 0 < rat (y - x) (z - y) := by have := rat_or (y - x) (z - y); omega
          clear hmany hr
          go_wp2
          go_quiet ((go_at_call 39; exact Calls.quiet_of_same (times_q _ _ _ (by omega) (by omega) (by omega) (by omega))))
          have hown2 : (wr.drewN nq).ownsRow w.heap.size 72 2 v gs.length (flatG gs) := hown
          have hbel2 := below_drewN hbel nq
          clear hown hbel HCW
          generalize wr.drewN nq = w2 at hown2 hbel2 ⊢
          go_wp2_with (at_builtin; refine wpList_append_own _ rfl (.tmp 41) (.tmp 45) 69 rfl w.heap.size 72 i0 _ 2 16 Tryd.underlying69 hi hz0 hz1 hz2 rfl (by decide) _ gs.length (flatG gs) rfl (hown2.alloc _) ⟨w2.heap.size, 0, none⟩ 1 1 [.int .i64 (k : Nat), .int .i64 2] rfl rfl (cell_two_new _ _ _ _) (by simp [Value.oneCell']) (by simp only [maxLen]; omega) (by omega) (by have := hbel2.size; simp; omega) ?_; intro v' w1 hown' hgrow _)
          go_roundw
          case rel => exact ⟨_, k + 2, gs ++ [(k, 2)], rfl, by go_num, by omega, by simp; omega, by rw [List.length_append, flatG_snoc]; exact hown', (hbel2.alloc hbel2.size _).grown hgrow (by have := hbel2.size; simp; omega) (fun g hg => (hown2.lt g hg).1), hide (by rw [hgr.out, grsFrom_step xs k hlt, hm2.out]; simp)⟩
          case measure => simp [intOf]; omega
      · have hm1 : Hid (many xs k = 1) := by show many xs k = 1; unfold many; rw [if_neg]; omega
        have hl4 : decide ((k : Int) + 2 < xs.length) = false := by simp; omega
        go_wp2
        go_quiet (fail)
        have hown2 : (wr.drewN nq).ownsRow w.heap.size 72 2 v gs.length (flatG gs) := hown
        have hbel2 := below_drewN hbel nq
        clear hown hbel HCW
        generalize wr.drewN nq = w2 at hown2 hbel2 ⊢
        go_wp2_with (at_builtin; refine wpList_append_own _ rfl (.tmp 41) (.tmp 45) 69 rfl w.heap.size 72 i0 _ 2 16 Tryd.underlying69 hi hz0 hz1 hz2 rfl (by decide) _ gs.length (flatG gs) rfl (hown2.alloc _) ⟨w2.heap.size, 0, none⟩ 1 1 [.int .i64 (k : Nat), .int .i64 1] rfl rfl (cell_two_new _ _ _ _) (by simp [Value.oneCell']) (by simp only [maxLen]; omega) (by omega) (by have := hbel2.size; simp; omega) ?_; intro v' w1 hown' hgrow _)
        go_roundw
        case rel => exact ⟨_, k + 1, gs ++ [(k, 1)], rfl, by go_num, by omega, by simp; omega, by rw [List.length_append, flatG_snoc]; exact hown', (hbel2.alloc hbel2.size _).grown hgrow (by have := hbel2.size; simp; omega) (fun g hg => (hown2.lt g hg).1), hide (by rw [hgr.out, grsFrom_step xs k hlt, hm1.out]; simp)⟩
        case measure => simp [intOf]; omega
    · have hl3 : ¬ ((k : Int) + 1 < xs.length) := by omega
      have hge : Hid (grs xs = gs) := by show _ = _; rw [hgr.out, grsFrom_end xs k hlt, List.append_nil]
      go_wp2
      go_ret
      exact ⟨_, rfl, by rw [hge.out]; exact IsGB.of_own hown, fun g hg => (hown.lt g hg).1, hbel⟩
end Go.Proofs.YtfbgnnelnpcbiaaDoor

namespace Go.Proofs.YtfbgnnelnpcbiaaDoor
open Go.RowKit

def grsE (xs : List Int) : List (Nat × Nat) := if rise 9 100000 xs = true then grs xs else []

theorem IsGB.nil (B : Nat) (w : World) : IsGB B w (.slice none 0 0) [] := ⟨none, 0, rfl, Nat.le_refl _, Nat.zero_le _, fun h => absurd rfl h⟩

set_option maxHeartbeats 400000 in
/-- Two slices that read as one list are the same. -/
theorem sameInts_w (v1 v2 : Value) (xs : List Int) (w : World) (h1 : IsL w v1 xs) (h2 : IsL w v2 xs) :
    Calls Tryd.prog 29 #[v1, v2] w fun e w' => e = .returned (.bool true) ∧ Drew w w' := by
  obtain ⟨a1, c1, rfl, l1, m1, _, k1⟩ := h1
  obtain ⟨a2, c2, rfl, l2, m2, _, k2⟩ := h2
  unfold maxLen at m1 m2
  go_enter Tryd.func29, Tryd.ntmps29
  go_wp2
  go_loopw [5] (fun i wr => ∃ k n : Nat, i = .int .i64 k ∧ k ≤ xs.length ∧ wr = w.drewN n) (fun i _ => xs.length - (intOf i).toNat)
  case atStart => exact ⟨0, 0, rfl, Nat.zero_le _, rfl⟩
  case round =>
    obtain ⟨k, n, rfl, hk, rfl⟩ := hrel
    by_cases hlt : k < xs.length
    · have hne : xs ≠ [] := by intro h; subst h; simp at hlt
      obtain ⟨b1, o1, rfl, _, q1⟩ := k1 hne
      obtain ⟨b2, o2, rfl, _, q2⟩ := k2 hne
      have d1 := q1 k hlt
      have d2 := q2 k hlt
      clear q1 q2 hne
      have hl : (k : Int) < xs.length := by omega
      obtain ⟨x, hx⟩ : ∃ x, xs[k]?.getD 0 = x := ⟨_, rfl⟩
      rw [hx] at d1 d2
      clear hx
      go_wp2
      go_quiet (fail)
      go_wp2
      go_roundw
      case rel => exact ⟨k + 1, _, by go_num, by omega, (by first | rfl | exact World.drewN_drewN _ _ _)⟩
      case measure => simp [intOf]; omega
    · have hl : ¬ ((k : Int) < xs.length) := by omega
      go_wp2
      go_ret
      exact ⟨rfl, n, rfl⟩

def gAt (a : List (Nat × Nat)) (i : Nat) : Nat × Nat := a[i]?.getD (0, 0)
def sameTo (a b : List (Nat × Nat)) (m : Int) (k : Nat) : Bool := (List.range k).all fun i => decide (((gAt a i).1 : Int) = ((gAt b i).1 : Int) + m ∧ (gAt a i).2 = (gAt b i).2)
/-- The groups a are the groups b, moved by a number. -/
def sameG (a b : List (Nat × Nat)) (m : Int) : Bool := decide (a.length = b.length) && sameTo a b m a.length

theorem sameTo_succ (a b : List (Nat × Nat)) (m : Int) (k : Nat) : sameTo a b m (k + 1) = (sameTo a b m k && decide (((gAt a k).1 : Int) = ((gAt b k).1 : Int) + m ∧ (gAt a k).2 = (gAt b k).2)) := by
  unfold sameTo; rw [List.range_succ, List.all_append]; simp
theorem sameTo_false (a b : List (Nat × Nat)) (m : Int) (k n : Nat) (hk : k < n) (h : ¬ (((gAt a k).1 : Int) = ((gAt b k).1 : Int) + m ∧ (gAt a k).2 = (gAt b k).2)) : sameTo a b m n = false := by
  unfold sameTo; rw [Bool.eq_false_iff]; intro h'; rw [List.all_eq_true] at h'
  have := h' k (List.mem_range.2 hk); simp only [decide_eq_true_eq] at this; exact h this
theorem sameG_refl (a : List (Nat × Nat)) : sameG a a 0 = true := by
  unfold sameG sameTo; simp

end Go.Proofs.YtfbgnnelnpcbiaaDoor

namespace Go.Proofs.YtfbgnnelnpcbiaaDoor
open Go.RowKit

/-- Block g is just these cells. -/
def Blk (w : World) (g : Nat) (t : TypeId) (cs : Array Value) : Prop := w.heap[g]? = some (.cells cs t (0, 0))

theorem Blk.lt {w : World} {g : Nat} {t : TypeId} {cs : Array Value} (h : Blk w g t cs) : g < w.heap.size := by
  rcases Nat.lt_or_ge g w.heap.size with hlt | hge
  · exact hlt
  · unfold Blk at h; rw [Array.getElem?_eq_none hge] at h; cases h
theorem Blk.cell {w : World} {g : Nat} {t : TypeId} {cs : Array Value} (h : Blk w g t cs) (i : Nat) : w.cell? ⟨g, i, none⟩ = cs[i]? := cell_of_row w g i cs t (0, 0) h
theorem Blk.frozen {w : World} {g : Nat} {t : TypeId} {cs : Array Value} (h : Blk w g t cs) (i : Nat) : w.frozen? ⟨g, i, none⟩ = false := by
  unfold Blk at h; simp [World.frozen?, h]
theorem Blk.set {w : World} {g : Nat} {t : TypeId} {cs : Array Value} (h : Blk w g t cs) (i : Nat) (u : Value) : Blk (w.setCell ⟨g, i, none⟩ u) g t (cs.setIfInBounds i u) := by
  unfold Blk at h ⊢; simp [World.setCell, Array.getElem?_modify, h]
theorem Blk.far {w : World} {g : Nat} {t : TypeId} {cs : Array Value} (h : Blk w g t cs) {p : Addr} (hp : g ≠ p.block) (u : Value) : Blk (w.setCell p u) g t cs := (Below.heap_setCell w p u g hp).trans h

def ints (l : List Int) : Array Value := (l.map (Value.int .i64)).toArray
theorem ints_at (l : List Int) (i : Nat) (h : i < l.length) : (ints l)[i]? = some (.int .i64 (at_ l i)) := by simp [ints, at_, h]
theorem ints_set (l : List Int) (i : Nat) (x : Int) : (ints l).setIfInBounds i (.int .i64 x) = ints (l.set i x) := by
  unfold ints; rw [List.setIfInBounds_toArray, List.map_set]

/-- The accumulator at block tb: its weights lie at block wb. -/
structure WSt (tb wb : Nat) (l : List Int) (W : World) : Prop where
  tal : Blk W tb 90 #[.slice (some ⟨wb, 0, none⟩) l.length l.length, .slice none 0 0, .int .i64 0]
  row : Blk W wb 3 (ints l)
  ne : tb ≠ wb

set_option maxHeartbeats 400000 in
theorem addWeight_w (tb wb : Nat) (l : List Int) (at' : Nat) (wt : Int) (w : World) (h : WSt tb wb l w) (hat : at' < l.length) (_hb1 : -1000000000 ≤ at_ l at' + wt) (_hb2 : at_ l at' + wt ≤ 1000000000) :
    Calls Tryd.prog 55 #[.pointer (some ⟨tb, 0, none⟩), .int .i64 at', .int .i64 wt] w fun e w' => e = .returned (.tuple #[]) ∧ WSt tb wb (addW l (at', wt)) w' ∧ w' = w.setCell ⟨wb, at', none⟩ (.int .i64 (at_ l at' + wt)) := by
  have c1 : w.cell? ⟨tb, 0, none⟩ = some (.slice (some ⟨wb, 0, none⟩) l.length l.length) := h.tal.cell 0
  have c2 : w.cell? ⟨wb, at', none⟩ = some (.int .i64 (at_ l at')) := by rw [h.row.cell, ints_at _ _ hat]
  have f2 := h.row.frozen at'
  have hfin : WSt tb wb (addW l (at', wt)) (w.setCell ⟨wb, at', none⟩ (.int .i64 (at_ l at' + wt))) := by
    refine ⟨?_, ?_, h.ne⟩
    · have := h.tal.far (p := ⟨wb, at', none⟩) h.ne (.int .i64 (at_ l at' + wt))
      simpa [addW] using this
    · have := h.row.set at' (.int .i64 (at_ l at' + wt))
      rw [ints_set] at this
      exact this
  have HF := hide hfin; clear hfin h
  have hl : (at' : Int) < l.length := by omega
  obtain ⟨x, hx⟩ : ∃ x, at_ l at' = x := ⟨_, rfl⟩
  rw [hx] at c2 _hb1 _hb2 HF ⊢
  clear hx
  go_enter Tryd.func55, Tryd.ntmps55
  go_wp2
  go_end0
  exact ⟨rfl, HF.out, rfl⟩

set_option maxRecDepth 100000 in
set_option maxHeartbeats 1000000 in
theorem addProduct_w (tb : Nat) (a : Option Addr) (n cap : Nat) (vs : List Int) (s : Int) (at' : Nat) (wt : Int) (w : World) (h : Blk w tb 90 #[.slice none 0 0, .slice a n cap, .int .i64 s]) (hv : IsLB tb w (.slice a n cap) vs)
    (hat : at' < vs.length) (_hb1 : -9000000000000000000 ≤ wt * at_ vs at') (_hb2 : wt * at_ vs at' ≤ 9000000000000000000) (_hb3 : -9000000000000000000 ≤ s + wt * at_ vs at') (_hb4 : s + wt * at_ vs at' ≤ 9000000000000000000) :
    Calls Tryd.prog 60 #[.pointer (some ⟨tb, 0, none⟩), .int .i64 at', .int .i64 wt] w fun e w' => e = .returned (.tuple #[]) ∧ ∃ q, w' = (w.drewN q).setCell ⟨tb, 2, none⟩ (.int .i64 (s + wt * at_ vs at')) := by
  obtain ⟨a', cap', hv', l1, l2, _, l4⟩ := hv
  cases hv'
  unfold maxLen at l2
  obtain ⟨b, off, rfl, hbt, hc⟩ := l4 (by intro h; subst h; simp at hat)
  have c1 : w.cell? ⟨tb, 1, none⟩ = some (.slice (some ⟨b, off, none⟩) vs.length cap) := h.cell 1
  have c2 : w.cell? ⟨tb, 2, none⟩ = some (.int .i64 s) := h.cell 2
  have c3 : w.cell? ⟨b, off + at', none⟩ = some (.int .i64 (at_ vs at')) := hc at' hat
  have f2 := h.frozen 2
  clear hc l4 h
  have hl : (at' : Int) < vs.length := by omega
  obtain ⟨x, hx⟩ : ∃ x, at_ vs at' = x := ⟨_, rfl⟩
  rw [hx] at c3 _hb1 _hb2 _hb3 _hb4 ⊢
  clear hx
  go_enter Tryd.func60, Tryd.ntmps60
  go_wp2
  go_region
  all_goals (go_end0; exact ⟨rfl, 1, rfl⟩)
end Go.Proofs.YtfbgnnelnpcbiaaDoor
