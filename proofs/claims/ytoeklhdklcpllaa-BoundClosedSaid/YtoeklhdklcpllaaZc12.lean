import Derived.Test.YtoeklhdklcpllaaZc11
import Derived.Test.YtoeklhdklcpllaaZc09
set_option linter.unusedVariables false
set_option linter.unusedSimpArgs false
namespace Go.Proofs.Ytoeklhdklcpllaa
open Go Go.RowKit
namespace Ev
theorem tmodP_bd {x m : Int} (h : 0 < m) : -m < x.tmod m /\ x.tmod m < m := by
 have h1 := Int.natAbs_tmod x m
 have h2 := Nat.mod_lt x.natAbs (show 0 < m.natAbs by omega)
 omega
def modP (x m : Int) : Int := if x.tmod m < 0 then x.tmod m + m else x.tmod m
theorem modP_bd {x m : Int} (h : 0 < m) : 0 <= modP x m /\ modP x m < m := by
 have := tmodP_bd (x := x) h
 unfold modP
 split <;> omega
def chZ (lo hi p : Int) : Int := if lo = -1000000000 /\ hi = 1000000000 then 0 else if hi = 1000000000 then lo else if lo = -1000000000 then hi else lo + modP p (hi - lo + 1)
def loV (D : Nat -> Nat -> Int) (x : List Int) (n : Nat) : Nat -> Int
 | 0 => -1000000000
 | k + 1 => if D n k = 1000000000 then loV D x n k else max (loV D x n k) (x.getD k 0 - D n k)
def hiV (D : Nat -> Nat -> Int) (x : List Int) (n : Nat) : Nat -> Int
 | 0 => 1000000000
 | k + 1 => if D k n = 1000000000 then hiV D x n k else min (hiV D x n k) (x.getD k 0 + D k n)
theorem lo_free {D : Nat -> Nat -> Int} {x : List Int} {n k : Nat} {lo : Int} (h : lo = loV D x n k) (hd : D n k = 1000000000) : lo = loV D x n (k + 1) := by
 show lo = if D n k = 1000000000 then _ else _
 rw [if_pos hd]; exact h
theorem lo_some {D : Nat -> Nat -> Int} {x : List Int} {n k : Nat} {lo : Int} (h : lo = loV D x n k) (hd : ¬ D n k = 1000000000) : max lo (x.getD k 0 - D n k) = loV D x n (k + 1) := by
 show _ = if D n k = 1000000000 then _ else _
 rw [if_neg hd, h]
theorem hi_free {D : Nat -> Nat -> Int} {x : List Int} {n k : Nat} {hi : Int} (h : hi = hiV D x n k) (hd : D k n = 1000000000) : hi = hiV D x n (k + 1) := by
 show hi = if D k n = 1000000000 then _ else _
 rw [if_pos hd]; exact h
theorem hi_some {D : Nat -> Nat -> Int} {x : List Int} {n k : Nat} {hi : Int} (h : hi = hiV D x n k) (hd : ¬ D k n = 1000000000) : min hi (x.getD k 0 + D k n) = hiV D x n (k + 1) := by
 show _ = if D k n = 1000000000 then _ else _
 rw [if_neg hd, h]
def pkV (ps : List Int) (i : Nat) : Int := if ps.length = 0 then 0 else ps.getD (i % ps.length) 0
def ptL (D : Nat -> Nat -> Int) (ps : List Int) : Nat -> List Int
 | 0 => [0]
 | w + 1 => ptL D ps w ++ [chZ (loV D (ptL D ps w) (w + 1) (w + 1)) (hiV D (ptL D ps w) (w + 1) (w + 1)) (pkV ps w)]
theorem ptL_len {D : Nat -> Nat -> Int} {ps : List Int} : ∀ {w : Nat}, (ptL D ps w).length = w + 1
 | 0 => rfl
 | w + 1 => by
  show (ptL D ps w ++ _).length = _
  rw [List.length_append, ptL_len]; rfl
theorem DT.lo {ls : List (List Int)} {M : Nat} {D : Nat -> Nat -> Int} {y : Nat -> Int} (h : DT ls (M + 1) D) (hy : ∀ i, i < ls.length -> y (lb ls i) <= y (la ls i) + lw ls i) (hb : ∀ a, a < M + 1 -> -1300000 <= y a /\ y a <= 0) {f a : Nat} (hf : f < M + 1) (ha : a < M + 1) : -1300000 <= D f a := by
 by_cases q : D f a = 1000000000
 ·rw [q]; decide
 ·have h1 := ((h f hf).way a ha q).pot hy
  have h2 := hb a ha
  have h3 := hb f hf
  omega
structure Sm (D : Nat -> Nat -> Int) (N : Nat) : Prop where
 lo : ∀ a b, a < N -> b < N -> -1300000 <= D a b
 hi : ∀ a b, a < N -> b < N -> D a b = 1000000000 ∨ D a b <= 1280000
theorem DT.sm {ls : List (List Int)} {M : Nat} {D : Nat -> Nat -> Int} {y : Nat -> Int} (h : DT ls (M + 1) D) (hy : ∀ i, i < ls.length -> y (lb ls i) <= y (la ls i) + lw ls i) (hb : ∀ a, a < M + 1 -> -1300000 <= y a /\ y a <= 0) : Sm D (M + 1) := ⟨fun a b ha hb' => h.lo hy hb ha hb', fun a b ha hb' => (h a ha).hi b hb'⟩
def Nb (x : List Int) (c : Int) : Prop := ∀ i, i < x.length -> -c <= x.getD i 0 /\ x.getD i 0 <= c
theorem lo_bd {D : Nat -> Nat -> Int} {N n : Nat} {x : List Int} {c : Int} (hD : Sm D N) (hn : n < N) (hx : Nb x c) (hc : 0 <= c /\ c <= 100000000) : ∀ {k : Nat}, k <= x.length -> k <= n -> loV D x n k = -1000000000 ∨ (-c - 1280000 <= loV D x n k /\ loV D x n k <= c + 1300000)
 | 0, _, _ => .inl rfl
 | k + 1, hk, hkn => by
  have ih := lo_bd hD hn hx hc (k := k) (by omega) (by omega)
  have h1 := hD.lo n k hn (by omega)
  have h2 := hD.hi n k hn (by omega)
  have h3 := hx k (by omega)
  show (if D n k = 1000000000 then loV D x n k else max (loV D x n k) (x.getD k 0 - D n k)) = -1000000000 ∨ (-c - 1280000 <= (if D n k = 1000000000 then loV D x n k else max (loV D x n k) (x.getD k 0 - D n k)) /\ (if D n k = 1000000000 then loV D x n k else max (loV D x n k) (x.getD k 0 - D n k)) <= c + 1300000)
  split
  ·exact ih
  ·exact .inr (by omega)
theorem hi_bd {D : Nat -> Nat -> Int} {N n : Nat} {x : List Int} {c : Int} (hD : Sm D N) (hn : n < N) (hx : Nb x c) (hc : 0 <= c /\ c <= 100000000) : ∀ {k : Nat}, k <= x.length -> k <= n -> hiV D x n k = 1000000000 ∨ (-c - 1300000 <= hiV D x n k /\ hiV D x n k <= c + 1280000)
 | 0, _, _ => .inl rfl
 | k + 1, hk, hkn => by
  have ih := hi_bd hD hn hx hc (k := k) (by omega) (by omega)
  have h1 := hD.lo k n (by omega) hn
  have h2 := hD.hi k n (by omega) hn
  have h3 := hx k (by omega)
  show (if D k n = 1000000000 then hiV D x n k else min (hiV D x n k) (x.getD k 0 + D k n)) = 1000000000 ∨ (-c - 1300000 <= (if D k n = 1000000000 then hiV D x n k else min (hiV D x n k) (x.getD k 0 + D k n)) /\ (if D k n = 1000000000 then hiV D x n k else min (hiV D x n k) (x.getD k 0 + D k n)) <= c + 1280000)
  split
  ·exact ih
  ·exact .inr (by omega)
theorem lo_Lo {D : Nat -> Nat -> Int} {N : Nat} {x : List Int} {c : Int} (hD : Sm D N) (hn : x.length < N) (hx : Nb x c) (hc : 0 <= c /\ c <= 100000000) : ∀ {k : Nat}, k <= x.length -> Lo D x k (loV D x x.length k)
 | 0, _ => .zero
 | k + 1, hk => by
  have ih := lo_Lo hD hn hx hc (k := k) (by omega)
  have h2 := hD.hi x.length k hn (by omega)
  have h3 := hx k (by omega)
  show Lo D x (k + 1) (if D x.length k = 1000000000 then loV D x x.length k else max (loV D x x.length k) (x.getD k 0 - D x.length k))
  split
  ·exact ih.skip (by assumption)
  ·exact ih.put (by assumption) (by omega)
theorem hi_Hi {D : Nat -> Nat -> Int} {N : Nat} {x : List Int} {c : Int} (hD : Sm D N) (hn : x.length < N) (hx : Nb x c) (hc : 0 <= c /\ c <= 100000000) : ∀ {k : Nat}, k <= x.length -> Hi D x k (hiV D x x.length k)
 | 0, _ => .zero
 | k + 1, hk => by
  have ih := hi_Hi hD hn hx hc (k := k) (by omega)
  have h2 := hD.hi k x.length (by omega) hn
  have h3 := hx k (by omega)
  show Hi D x (k + 1) (if D k x.length = 1000000000 then hiV D x x.length k else min (hiV D x x.length k) (x.getD k 0 + D k x.length))
  split
  ·exact ih.skip (by assumption)
  ·exact ih.put (by assumption) (by omega)
theorem ch_in {lo hi p : Int} (h : ¬ lo = -1000000000 -> ¬ hi = 1000000000 -> lo <= hi) : (lo = -1000000000 ∨ lo <= chZ lo hi p) /\ (hi = 1000000000 ∨ chZ lo hi p <= hi) /\ (chZ lo hi p = 0 ∨ (¬ lo = -1000000000 /\ chZ lo hi p = lo) ∨ (¬ hi = 1000000000 /\ chZ lo hi p = hi) ∨ (¬ lo = -1000000000 /\ ¬ hi = 1000000000 /\ lo <= chZ lo hi p /\ chZ lo hi p <= hi)) := by
 unfold chZ
 split
 ·rename_i h1; exact ⟨.inl h1.1, .inl h1.2, .inl rfl⟩
 ·split
  ·rename_i h1 h2
   exact ⟨.inr (Int.le_refl _), .inl h2, .inr (.inl ⟨by omega, rfl⟩)⟩
  ·split
   ·rename_i h1 h2 h3
    exact ⟨.inl h3, .inr (Int.le_refl _), .inr (.inr (.inl ⟨by omega, rfl⟩))⟩
   ·rename_i h1 h2 h3
    have h4 := h h3 h2
    have h5 := modP_bd (x := p) (m := hi - lo + 1) (by omega)
    exact ⟨.inr (by omega), .inr (by omega), .inr (.inr (.inr ⟨h3, h2, by omega, by omega⟩))⟩
theorem ptL_ok {ls : List (List Int)} {M : Nat} {D : Nat -> Nat -> Int} {ps : List Int} (hD : DT ls (M + 1) D) (hS : Sm D (M + 1)) (hM : M <= 64) : ∀ {w : Nat}, w <= M -> Pk D (ptL D ps w) /\ Nb (ptL D ps w) (1300000 * (w : Int)) /\ (ptL D ps w).getD 0 0 = 0
 | 0, _ => by
  refine ⟨fun i j hi hj hf => ?_, fun i hi => ?_, rfl⟩
  ·have hi' : i < 1 := hi
   have hj' : j < 1 := hj
   obtain rfl : i = 0 := by omega
   obtain rfl : j = 0 := by omega
   have := (hD 0 (by omega)).own
   show (0 : Int) - 0 <= _
   omega
  ·have hi' : i < 1 := hi
   obtain rfl : i = 0 := by omega
   show -(1300000 * ((0 : Nat) : Int)) <= (0 : Int) /\ (0 : Int) <= 1300000 * ((0 : Nat) : Int)
   omega
 | w + 1, hw => by
  obtain ⟨h1, h2, h3⟩ := ptL_ok hD hS hM (ps := ps) (w := w) (by omega)
  have hl : (ptL D ps w).length = w + 1 := ptL_len
  have hlo := lo_Lo hS (show (ptL D ps w).length < M + 1 by omega) h2 (by omega) (Nat.le_refl _)
  have hhi := hi_Hi hS (show (ptL D ps w).length < M + 1 by omega) h2 (by omega) (Nat.le_refl _)
  have blo := lo_bd hS (n := w + 1) (by omega) h2 (by omega) (k := w + 1) (by omega) (Nat.le_refl _)
  have bhi := hi_bd hS (n := w + 1) (by omega) h2 (by omega) (k := w + 1) (by omega) (Nat.le_refl _)
  have hroom := lo_hi hD (show (ptL D ps w).length < M + 1 by omega) h1 hlo hhi
  rw [hl] at hlo hhi hroom
  have hc := ch_in (p := pkV ps w) hroom
  refine ⟨Pk.add hD (by omega) h1 (by rw [hl]; exact hlo) (by rw [hl]; exact hhi) ⟨hc.1, hc.2.1⟩ (fun i hi hf => ?_) (fun i hi hf => ?_), fun i hi => ?_, ?_⟩
  ·have a1 := h2 i hi
   have a2 := hS.hi (ptL D ps w).length i (by omega) (by omega)
   omega
  ·have a1 := h2 i hi
   have a2 := hS.hi i (ptL D ps w).length (by omega) (by omega)
   omega
  ·show -(1300000 * ((w + 1 : Nat) : Int)) <= (ptL D ps w ++ [_]).getD i 0 /\ (ptL D ps w ++ [_]).getD i 0 <= 1300000 * ((w + 1 : Nat) : Int)
   have hi' : i < w + 2 := by rw [ptL_len] at hi; exact hi
   rw [List.getD_eq_getElem?_getD]
   by_cases q : i < w + 1
   ·rw [List.getElem?_append_left (by omega), <- List.getD_eq_getElem?_getD]
    have := h2 i (by omega)
    omega
   ·rw [List.getElem?_append_right (by omega), show i - (ptL D ps w).length = 0 by omega]
    show -(1300000 * ((w + 1 : Nat) : Int)) <= chZ _ _ _ /\ chZ _ _ _ <= _
    have := hc.2.2
    omega
  ·show (ptL D ps w ++ [_]).getD 0 0 = 0
   rw [List.getD_eq_getElem?_getD, List.getElem?_append_left (by omega), <- List.getD_eq_getElem?_getD]
   exact h3
theorem ptL_pt {ls : List (List Int)} {M : Nat} {D : Nat -> Nat -> Int} {ps : List Int} (hl : lmB (M : Int) ls = true) (hD : DT ls (M + 1) D) (hS : Sm D (M + 1)) (hM : M <= 64) : ptB (M : Int) ls (ptL D ps M) = true := by
 obtain ⟨h1, h2, h3⟩ := ptL_ok hD hS hM (ps := ps) (Nat.le_refl M)
 refine pt_yes ⟨by rw [ptL_len]; omega, h3⟩ ?_ (h1.kept hl hD ptL_len)
 unfold inB
 refine List.all_eq_true.2 (fun z hz => ?_)
 obtain ⟨i, hi, rfl⟩ := List.getElem_of_mem hz
 have h4 := h2 i hi
 rw [List.getD_eq_getElem?_getD, List.getElem?_eq_getElem hi] at h4
 have h5 : -(1300000 * (M : Int)) <= (ptL D ps M)[i] /\ (ptL D ps M)[i] <= 1300000 * (M : Int) := h4
 exact decide_eq_true (by omega)
section
variable {X : FuncId -> List Value -> St -> (Value -> St -> Bool) -> Bool}
theorem modulo_s (n : Nat) (x m : Int) (s : St) (hs : Wf s) (hm : 0 < m /\ m <= 4000000000) : Spec Try.prog (tabK tabw) X (n + 60) 64 [.int .i64 x, .int .i64 m] s (fun v A => v = .int .i64 (modP x m) /\ A = []) := by
 refine enter bw64_at rfl hs ?_
 unfold bw64
 have hq := tmodP_bd (x := x) hm.1
 refine rS (kM rfl rfl (i_nil (rS (kM rfl rfl (kM rfl rfl (kO rfl (a_rem rfl rfl (by omega) (kM rfl rfl (i_nil (rQ (rS (kM rfl rfl (kO rfl (a_lss rfl rfl (fun h1 => ?_) (fun h1 => ?_)))))))))))))))
 ·refine i_nil (r_cond_t rfl (rI (kM rfl rfl (kM rfl rfl (kO rfl (a_add rfl rfl (by omega) (kM rfl rfl (i_nil (then_n (rS (kM rfl rfl (kM rfl rfl (i_nil (r_ret (end1 rfl ⟨congrArg (Value.int .i64) ?_, rfl⟩)))))))))))))))
  unfold modP
  first | (rw [if_pos (by omega)]; done) | (rw [if_neg (by omega)]; done)
 ·refine i_nil (r_cond_f rfl (r_skip (then_n (rS (kM rfl rfl (kM rfl rfl (i_nil (r_ret (end1 rfl ⟨congrArg (Value.int .i64) ?_, rfl⟩)))))))))
  unfold modP
  first | (rw [if_pos (by omega)]; done) | (rw [if_neg (by omega)]; done)
theorem choose_s (n : Nat) (lo hi p : Int) (s : St) (hs : Wf s) (hlo : -1000000000 <= lo /\ lo <= 1000000000) (hhi : -1000000000 <= hi /\ hi <= 1000000000) (hr : ¬ lo = -1000000000 -> ¬ hi = 1000000000 -> lo <= hi) : Spec Try.prog (tabK tabw) X (n + 120) 41 [.int .i64 lo, .int .i64 hi, .int .i64 p] s (fun v A => v = .int .i64 (chZ lo hi p) /\ A = []) := by
 refine enter bw41_at rfl hs ?_
 unfold bw41
 refine rS (kM rfl rfl (i_nil (rQ (r_block (rS (kM rfl rfl (kO rfl (a_eql rfl rfl (fun h1 => ?_) (fun h1 => ?_)))))))))
 ·refine kM rfl rfl (kG rfl rfl (a_mov rfl (kG rfl rfl (a_eql rfl rfl (fun h2 => ?_) (fun h2 => ?_)))))
  ·refine kO rfl (a_pick_t rfl rfl rfl (kM rfl rfl (i_nil (r_cond_t rfl (rS (kM rfl rfl (i_nil (r_ret (block_r (then_r (end1 rfl ⟨congrArg (Value.int .i64) ?_, rfl⟩)))))))))))
   unfold chZ
   first | (rw [if_pos (by omega)]; done) | (rw [if_neg (by omega), if_pos (by omega)]; done) | (rw [if_neg (by omega), if_neg (by omega), if_pos (by omega)]; done) | (rw [if_neg (by omega), if_neg (by omega), if_neg (by omega)]; done)
  ·refine kO rfl (a_pick_t rfl rfl rfl (kM rfl rfl (i_nil (r_cond_f rfl (rS (kM rfl rfl (kO rfl (a_eql rfl rfl (fun h3 => ?_) (fun h3 => ?_)))))))))
   ·refine kM rfl rfl (i_nil (r_cond_t rfl (rS (kM rfl rfl (kM rfl rfl (i_nil (r_ret (block_r (then_r (end1 rfl ⟨congrArg (Value.int .i64) ?_, rfl⟩))))))))))
    unfold chZ
    first | (rw [if_pos (by omega)]; done) | (rw [if_neg (by omega), if_pos (by omega)]; done) | (rw [if_neg (by omega), if_neg (by omega), if_pos (by omega)]; done) | (rw [if_neg (by omega), if_neg (by omega), if_neg (by omega)]; done)
   ·refine kM rfl rfl (i_nil (r_cond_f rfl (rS (kM rfl rfl (kO rfl (a_eql rfl rfl (fun h4 => ?_) (fun h4 => ?_)))))))
    ·refine kM rfl rfl (i_nil (r_cond_t rfl (rS (kM rfl rfl (kM rfl rfl (i_nil (r_ret (block_r (then_r (end1 rfl ⟨congrArg (Value.int .i64) ?_, rfl⟩))))))))))
     unfold chZ
     first | (rw [if_pos (by omega)]; done) | (rw [if_neg (by omega), if_pos (by omega)]; done) | (rw [if_neg (by omega), if_neg (by omega), if_pos (by omega)]; done) | (rw [if_neg (by omega), if_neg (by omega), if_neg (by omega)]; done)
    ·refine kM rfl rfl (i_nil (r_cond_f rfl (r_skip (block_n (then_n (rS (kM rfl rfl (kM rfl rfl (kM rfl rfl (kM rfl rfl (kO rfl (a_sub rfl rfl (by omega) (kO rfl (a_add rfl rfl (by omega) ?_))))))))))))))
     have hr9 := hr (by omega) (by omega)
     refine kO rfl (a_callV rfl rfl (fun s1 h1 => modulo_s _ _ _ s1 h1.wf (by omega)) ?_)
     have hm9 := modP_bd (x := p) (m := hi - lo + 1) (by omega)
     refine kO rfl (a_add rfl rfl (by omega) (kM rfl rfl (i_nil (r_ret (end1 rfl ⟨congrArg (Value.int .i64) ?_, rfl⟩)))))
     unfold chZ
     first | (rw [if_pos (by omega)]; done) | (rw [if_neg (by omega), if_pos (by omega)]; done) | (rw [if_neg (by omega), if_neg (by omega), if_pos (by omega)]; done) | (rw [if_neg (by omega), if_neg (by omega), if_neg (by omega)]; done)
 ·refine kM rfl rfl (i_no rfl rfl (i_no rfl rfl (kO rfl (a_pick_f rfl rfl rfl (kM rfl rfl (i_nil (r_cond_f rfl (rS (kM rfl rfl (kO rfl (a_eql rfl rfl (fun h5 => ?_) (fun h5 => ?_))))))))))))
  ·refine kM rfl rfl (i_nil (r_cond_t rfl (rS (kM rfl rfl (kM rfl rfl (i_nil (r_ret (block_r (then_r (end1 rfl ⟨congrArg (Value.int .i64) ?_, rfl⟩))))))))))
   unfold chZ
   first | (rw [if_pos (by omega)]; done) | (rw [if_neg (by omega), if_pos (by omega)]; done) | (rw [if_neg (by omega), if_neg (by omega), if_pos (by omega)]; done) | (rw [if_neg (by omega), if_neg (by omega), if_neg (by omega)]; done)
  ·refine kM rfl rfl (i_nil (r_cond_f rfl (rS (kM rfl rfl (kO rfl (a_eql rfl rfl (fun h6 => ?_) (fun h6 => ?_)))))))
   ·refine kM rfl rfl (i_nil (r_cond_t rfl (rS (kM rfl rfl (kM rfl rfl (i_nil (r_ret (block_r (then_r (end1 rfl ⟨congrArg (Value.int .i64) ?_, rfl⟩))))))))))
    unfold chZ
    first | (rw [if_pos (by omega)]; done) | (rw [if_neg (by omega), if_pos (by omega)]; done) | (rw [if_neg (by omega), if_neg (by omega), if_pos (by omega)]; done) | (rw [if_neg (by omega), if_neg (by omega), if_neg (by omega)]; done)
   ·refine kM rfl rfl (i_nil (r_cond_f rfl (r_skip (block_n (then_n (rS (kM rfl rfl (kM rfl rfl (kM rfl rfl (kM rfl rfl (kO rfl (a_sub rfl rfl (by omega) (kO rfl (a_add rfl rfl (by omega) ?_))))))))))))))
    have hr9 := hr (by omega) (by omega)
    refine kO rfl (a_callV rfl rfl (fun s1 h1 => modulo_s _ _ _ s1 h1.wf (by omega)) ?_)
    have hm9 := modP_bd (x := p) (m := hi - lo + 1) (by omega)
    refine kO rfl (a_add rfl rfl (by omega) (kM rfl rfl (i_nil (r_ret (end1 rfl ⟨congrArg (Value.int .i64) ?_, rfl⟩)))))
    unfold chZ
    first | (rw [if_pos (by omega)]; done) | (rw [if_neg (by omega), if_pos (by omega)]; done) | (rw [if_neg (by omega), if_neg (by omega), if_pos (by omega)]; done) | (rw [if_neg (by omega), if_neg (by omega), if_neg (by omega)]; done)
theorem Point_s (n : Nat) (m : Int) (al : Option Addr) (cl : Nat) (ls : List (List Int)) (ap : Option Addr) (cpk : Nat) (ps : List Int) (s : St) (hs : Wf s) (hn : 5066549580791808 <= n) (hL : RowsE s 4 al ls) (hP : IntsE s ap ps) : Spec Try.prog (tabK tabw) X (n + 8500) 17 [.agg ⟨[.int .i64 m, .slice al ls.length cl]⟩, .slice ap ps.length cpk] s (fun v A => (¬ sysE m ls = 0 /\ v = .tuple #[.slice none 0 0, .int .i64 (sysE m ls)] /\ A = []) ∨ (sysE m ls = 0 /\ Uns ls (m.toNat + 1) /\ v = .tuple #[.slice none 0 0, .int .i64 23] /\ A = []) ∨ (sysE m ls = 0 /\ ¬ Uns ls (m.toNat + 1) /\ ∃ b op cp D, v = .tuple #[.slice (some ⟨b, 0, none⟩) (m.toNat + 1) cp, .int .i64 0] /\ A = [.row b 3 op (ints (ptL D ps m.toNat))] /\ DT ls (m.toNat + 1) D)) := by
 refine enter bw17_at rfl hs ?_
 unfold bw17
 have hlen := hL.len
 have hlenP := hP.len
 refine rS (kO rfl (a_box rfl rfl rfl (fun b1 => (kM rfl rfl (kM rfl rfl (i_nil (rS (kO rfl (a_lda rfl (by decide) .here rfl (kO rfl (a_call rfl rfl (fun s1 h1 => Close_s _ m al cl ls s1 h1.wf (by omega) (hL.ext hs h1.2.1)) (fun v1 A1 q1 => ?_))))))))))))
 rcases q1 with ⟨hc, rfl, rfl⟩ | ⟨hc, hc2, rfl, rfl⟩ | ⟨hc, hc2, q1⟩
 ·have hc1 := hc
  refine kM rfl rfl (kO rfl (a_ext rfl rfl (kO rfl (a_ext rfl rfl (kM rfl rfl (kM rfl rfl (i_nil (rQ (rS (kM rfl rfl (kO rfl (a_neq rfl rfl (fun h5 => ?_) (fun h5 => ?_)))))))))))))
  ·refine i_nil (r_cond_t rfl (rS (kM rfl rfl (kM rfl rfl (kM rfl rfl (i_nil (r_ret (then_r ?_))))))))
   exact end2 rfl rfl (.inl ⟨hc1, rfl, rfl⟩)
  ·exfalso; omega
 ·have hsys := hc
  refine kM rfl rfl (kO rfl (a_ext rfl rfl (kO rfl (a_ext rfl rfl (kM rfl rfl (kM rfl rfl (i_nil (rQ (rS (kM rfl rfl (kO rfl (a_neq rfl rfl (fun _ => (i_nil (r_cond_t rfl (rS (kM rfl rfl (kM rfl rfl (kM rfl rfl (i_nil (r_ret (then_r ?_)))))))))) (fun h => absurd h (by decide))))))))))))))
  exact end2 rfl rfl (.inr (.inl ⟨hsys, hc2, rfl, rfl⟩))
 ·obtain ⟨bt2, Bt3, Dt4, rfl, rfl, hDT⟩ := q1
  have hsys := hc
  obtain ⟨hm0, hM, h400, hlm⟩ := sysE_ok hsys
  obtain ⟨M, rfl⟩ : ∃ q : Nat, m = (q : Int) := ⟨m.toNat, by omega⟩
  have hM : M <= 64 := by omega
  have h400 : ls.length <= 400 := by omega
  have hun : ¬ Uns ls (M + 1) := hc2
  change DT ls (M + 1) Dt4 at hDT
  obtain ⟨y, hy, hyb⟩ := set_pt hlm h400 hM hun
  have hS := hDT.sm hy hyb
  rw [List.append_assoc, List.singleton_append]
  rw [show ((M : Int).toNat) = M from rfl]
  refine kM rfl rfl (kO rfl (a_ext rfl rfl (kO rfl (a_ext rfl rfl (kM rfl rfl (kM rfl rfl (i_nil (rQ (rS (kM rfl rfl (kO rfl (a_neq rfl rfl (fun h => absurd h (by decide)) (fun _ => (i_nil (r_cond_f rfl (r_skip (then_n (rQ (rS (kM rfl rfl (kO rfl (a_lenx rfl hP.spot (kO rfl (a_eql rfl rfl (fun h8 => ?_) (fun h8 => ?_)))))))))))))))))))))))))
  ·refine i_nil (r_cond_t rfl (rI (kO rfl (a_lit rfl rfl rfl (fun b9 => (kM rfl rfl (i_nil (then_n (rS (kO rfl (a_lit rfl rfl rfl (fun b10 => (kM rfl rfl (i_nil (rQ (rS (kO rfl (a_fa rfl (kO rfl (a_ld rfl (.next (.next (.app (.next .here)))) rfl (kM rfl rfl (i_nil (r_block ?_)))))))))))))))))))))))
   refine r_loop (fun j e A => ∃ (w b cp : Nat) (op : Bool), e = [(1, .slice (some ⟨b9, 0, none⟩) 1 1), (2, .pointer (some ⟨b1, 0, none⟩)), (6, .slice (some ⟨bt2, 0, none⟩) (M + 1) (M + 1)), (8, .slice (some ⟨b, 0, none⟩) (w + 1) cp), (26, .int .i64 (M : Int)), (27, .int .i64 (w : Int))] /\ A = (.row b 3 op (ints (ptL Dt4 ps w)) :: (.row b9 3 false ([.int .i64 0]) :: (seg Bt3 (M + 1) Dt4 (M + 1) ++ (.row bt2 25 false (slsT Bt3 (M + 1) (M + 1) (M + 1)) :: (.row b1 29 false ([.int .i64 (M : Int), .slice al ls.length cl]) :: []))))) /\ j = M - w /\ w <= M /\ FT op cp w) 700 844424930131968 281474976710656 ?_ (j := _) (env2 := _) (A2 := _) ?_ ?_ ?_ ?_ ⟨0, b10, 1, false, rfl, rfl, rfl, Nat.zero_le _, (.inr ⟨rfl, rfl, rfl⟩)⟩
   rotate_left
   ·omega
   ·omega
   ·exact (lc 1 rfl (lc 2 rfl (lc 6 rfl (lc 8 rfl (lc 26 rfl (lc 27 rfl Less.nil))))))
   ·exact (.q (.q (.r (.q (.q .slnil)))))
   rintro n hn j _ _ ⟨w, b, cp, op, rfl, rfl, rfl, hw, hT⟩
   obtain ⟨hPk, hNb, _⟩ := ptL_ok (ps := ps) hDT hS hM hw
   have hlw : (ptL Dt4 ps w).length = w + 1 := ptL_len
   refine rS (kO rfl (a_lss rfl rfl (fun h11 => ?_) (fun h11 => ?_)))
   ·refine i_nil (rQ (r_cond_t rfl (r_skip (then_n (rQ (r_block (rS (kM rfl rfl (kM rfl rfl (i_nil (rS (kM rfl rfl (kM rfl rfl (kG rfl rfl (a_inl rfl rfl bw40_at rfl ?_)))))))))))))))
    unfold bw40
    refine rS (kM rfl rfl (kM rfl rfl (i_nil (rS (kM rfl rfl (kM rfl rfl (i_nil (rS (kM rfl rfl (kO rfl (a_len rfl (kM rfl rfl (i_nil (rQ (rS (kM rfl rfl (kO rfl (a_len rfl (kM rfl rfl (i_nil (r_block ?_)))))))))))))))))))))
    refine r_loop (fun j e A => ∃ (k : Nat) (lo hi : Int), e = [(0, .slice (some ⟨bt2, 0, none⟩) (M + 1) (M + 1)), (4, .int .i64 lo), (5, .int .i64 hi), (6, .int .i64 ((w + 1 : Nat) : Int)), (13, .slice (some ⟨b, 0, none⟩) (w + 1) cp), (14, .int .i64 ((w + 1 : Nat) : Int)), (15, .int .i64 (k : Int))] /\ A = (.row b 3 op (ints (ptL Dt4 ps w)) :: (.row b9 3 false ([.int .i64 0]) :: (seg Bt3 (M + 1) Dt4 (M + 1) ++ (.row bt2 25 false (slsT Bt3 (M + 1) (M + 1) (M + 1)) :: (.row b1 29 false ([.int .i64 (M : Int), .slice al ls.length cl]) :: []))))) /\ j = w + 1 - k /\ k <= w + 1 /\ lo = loV Dt4 (ptL Dt4 ps w) (w + 1) k /\ hi = hiV Dt4 (ptL Dt4 ps w) (w + 1) k) 300 281474976710656 281474976710656 ?_ (j := _) (env2 := _) (A2 := _) ?_ ?_ ?_ ?_ ⟨0, _, _, rfl, rfl, rfl, Nat.zero_le _, rfl, rfl⟩
    rotate_left
    ·omega
    ·omega
    ·exact (lc 0 rfl (lc 4 rfl (lc 5 rfl (lc 6 rfl (lc 13 rfl (lc 14 rfl (lc 15 rfl Less.nil)))))))
    ·exact (.q (.q (.r (.q (.q .slnil)))))
    rintro n hn j _ _ ⟨k, lo, hi, rfl, rfl, rfl, hk, hlo, hhi⟩
    refine rS (kO rfl (a_lss rfl rfl (fun h12 => ?_) (fun h12 => ?_)))
    ·have hl1 := hS.lo (w + 1) k (by omega) (by omega)
     have hl2 := hS.hi (w + 1) k (by omega) (by omega)
     have hl3 := hS.lo k (w + 1) (by omega) (by omega)
     have hl4 := hS.hi k (w + 1) (by omega) (by omega)
     have hx1 := hNb k (by omega)
     have blo := lo_bd hS (n := w + 1) (by omega) hNb (by omega) (k := k) (by omega) (by omega)
     have bhi := hi_bd hS (n := w + 1) (by omega) hNb (by omega) (k := k) (by omega) (by omega)
     rw [<- hlo] at blo
     rw [<- hhi] at bhi
     refine i_nil (rQ (r_cond_t rfl (r_skip (then_n (rQ (r_block (rS (kM rfl rfl (kO rfl (a_ia (j := k) rfl rfl (by omega) (by omega) (kO rfl (a_ldI rfl .here (by first | omega | (simp; done) | (simp; omega)) (kM rfl rfl (kM rfl rfl (i_nil (rQ (rS (kM rfl rfl (kM rfl rfl (kO rfl (a_ia (j := (w + 1)) rfl rfl (by omega) (by omega) (kO rfl (a_ld rfl (.next (.next (.app .here))) (sls_get (by omega) (by omega)) (kM rfl rfl (kO rfl (a_ia (j := k) rfl rfl (by omega) (by omega) (kO rfl (a_ldX (x := (Dt4) ((w + 1)) (k)) rfl (.next (.next (own_seg (by omega)))) (by rw [rowT_len]; omega) (rowT_get (by omega)) (kM rfl rfl ?_)))))))))))))))))))))))))))))
     refine i_nil (rS (kM rfl rfl (kO rfl (a_neq rfl rfl (fun h13 => ?_) (fun h13 => ?_)))))
     ·refine i_nil (r_cond_t rfl (rI (kM rfl rfl (kM rfl rfl (kM rfl rfl (kO rfl (a_sub rfl rfl (by omega) (kO rfl (a_max rfl (kM rfl rfl (i_nil (then_n (rS (kM rfl rfl (kM rfl rfl (kO rfl (a_ia (j := k) rfl rfl (by omega) (by omega) (kO rfl (a_ld rfl (.next (.next (.app .here))) (sls_get (by omega) (by omega)) (kM rfl rfl (kO rfl (a_ia (j := (w + 1)) rfl rfl (by omega) (by omega) (kO rfl (a_ldX (x := (Dt4) (k) ((w + 1))) rfl (.next (.next (own_seg (by omega)))) (by rw [rowT_len]; omega) (rowT_get (by omega)) (kM rfl rfl (i_nil (rS (kM rfl rfl (kO rfl (a_neq rfl rfl (fun h14 => ?_) (fun h14 => ?_)))))))))))))))))))))))))))))))
      ·refine i_nil (r_cond_t rfl (rI (kM rfl rfl (kM rfl rfl (kM rfl rfl (kO rfl (a_add rfl rfl (by omega) (kO rfl (a_min rfl (kM rfl rfl (i_nil (block_n (then_n (rI (kO rfl (a_add rfl rfl (by omega) (kM rfl rfl (i_nil (then_n ?_)))))))))))))))))))
       exact ⟨rfl, _, _, _, (show w + 1 - (k + 1) < w + 1 - k by omega), (lc 0 rfl (lc 4 rfl (lc 5 rfl (lc 6 rfl (lc 13 rfl (lc 14 rfl (lc 15 rfl Less.nil))))))), (.q (.q (.r (.q (.q .slnil))))), ⟨k + 1, _, _, rfl, rfl, rfl, by omega, (by first | exact lo_free hlo (by assumption) | exact lo_some hlo (by assumption)), (by first | exact hi_free hhi (by assumption) | exact hi_some hhi (by assumption))⟩⟩
      ·refine i_nil (r_cond_f rfl (r_skip (block_n (then_n (rI (kO rfl (a_add rfl rfl (by omega) (kM rfl rfl (i_nil (then_n ?_))))))))))
       exact ⟨rfl, _, _, _, (show w + 1 - (k + 1) < w + 1 - k by omega), (lc 0 rfl (lc 4 rfl (lc 5 rfl (lc 6 rfl (lc 13 rfl (lc 14 rfl (lc 15 rfl Less.nil))))))), (.q (.q (.r (.q (.q .slnil))))), ⟨k + 1, _, _, rfl, rfl, rfl, by omega, (by first | exact lo_free hlo (by assumption) | exact lo_some hlo (by assumption)), (by first | exact hi_free hhi (by assumption) | exact hi_some hhi (by assumption))⟩⟩
     ·refine i_nil (r_cond_f rfl (r_skip (then_n (rS (kM rfl rfl (kM rfl rfl (kO rfl (a_ia (j := k) rfl rfl (by omega) (by omega) (kO rfl (a_ld rfl (.next (.next (.app .here))) (sls_get (by omega) (by omega)) (kM rfl rfl (kO rfl (a_ia (j := (w + 1)) rfl rfl (by omega) (by omega) (kO rfl (a_ldX (x := (Dt4) (k) ((w + 1))) rfl (.next (.next (own_seg (by omega)))) (by rw [rowT_len]; omega) (rowT_get (by omega)) (kM rfl rfl (i_nil (rS (kM rfl rfl (kO rfl (a_neq rfl rfl (fun h15 => ?_) (fun h15 => ?_))))))))))))))))))))))
      ·refine i_nil (r_cond_t rfl (rI (kM rfl rfl (kM rfl rfl (kM rfl rfl (kO rfl (a_add rfl rfl (by omega) (kO rfl (a_min rfl (kM rfl rfl (i_nil (block_n (then_n (rI (kO rfl (a_add rfl rfl (by omega) (kM rfl rfl (i_nil (then_n ?_)))))))))))))))))))
       exact ⟨rfl, _, _, _, (show w + 1 - (k + 1) < w + 1 - k by omega), (lc 0 rfl (lc 4 rfl (lc 5 rfl (lc 6 rfl (lc 13 rfl (lc 14 rfl (lc 15 rfl Less.nil))))))), (.q (.q (.r (.q (.q .slnil))))), ⟨k + 1, _, _, rfl, rfl, rfl, by omega, (by first | exact lo_free hlo (by assumption) | exact lo_some hlo (by assumption)), (by first | exact hi_free hhi (by assumption) | exact hi_some hhi (by assumption))⟩⟩
      ·refine i_nil (r_cond_f rfl (r_skip (block_n (then_n (rI (kO rfl (a_add rfl rfl (by omega) (kM rfl rfl (i_nil (then_n ?_))))))))))
       exact ⟨rfl, _, _, _, (show w + 1 - (k + 1) < w + 1 - k by omega), (lc 0 rfl (lc 4 rfl (lc 5 rfl (lc 6 rfl (lc 13 rfl (lc 14 rfl (lc 15 rfl Less.nil))))))), (.q (.q (.r (.q (.q .slnil))))), ⟨k + 1, _, _, rfl, rfl, rfl, by omega, (by first | exact lo_free hlo (by assumption) | exact lo_some hlo (by assumption)), (by first | exact hi_free hhi (by assumption) | exact hi_some hhi (by assumption))⟩⟩
    ·have hkw : k = w + 1 := by omega
     subst hkw
     have blo := lo_bd hS (n := w + 1) (by omega) hNb (by omega) (k := w + 1) (by omega) (Nat.le_refl _)
     have bhi := hi_bd hS (n := w + 1) (by omega) hNb (by omega) (k := w + 1) (by omega) (Nat.le_refl _)
     have hroom := lo_hi hDT (by omega) hPk (lo_Lo hS (by omega) hNb (by omega) (Nat.le_refl _)) (hi_Hi hS (by omega) hNb (by omega) (Nat.le_refl _))
     rw [hlw, <- hlo, <- hhi] at hroom
     rw [<- hlo] at blo
     rw [<- hhi] at bhi
     refine i_nil (rQ (r_cond_f rfl (r_exit (then_e (then_e (block_hit (then_n (rS (kM rfl rfl (kM rfl rfl (kM rfl rfl (kM rfl rfl (i_nil (r_ret (endD2 rfl rfl .nil (kM rfl rfl (kO rfl (a_ext rfl rfl (kO rfl (a_ext rfl rfl (kM rfl rfl (kM rfl rfl (i_nil (rI (kM rfl rfl ?_)))))))))))))))))))))))))
     refine kM rfl rfl (kM rfl rfl (kM rfl rfl (kM rfl rfl (kM rfl rfl (kO rfl (a_len rfl (kO rfl (a_rem rfl rfl (by omega) ?_))))))))
     have hpv9 : pkV ps w = 0 := if_pos (by omega)
     refine kO rfl (a_ia (j := 0) rfl rfl (Int.tmod_one _) (by decide) (kO rfl (a_ld rfl (.next .here) rfl (kO rfl (a_callV rfl rfl (fun s1 h1 => choose_s _ _ _ _ s1 h1.wf (by omega) (by omega) hroom) (kO rfl (a_lit rfl rfl rfl (fun b16 => (kO rfl (a_app rfl rfl (Src.own .here rfl (by simp)) (.next .here) (by rw [ints_len, hlw, Nat.mul_one]) (tight_of hT) (by decide) (by omega) (by omega) (fun b17 => (kM rfl rfl (i_nil (block_n (then_n (rI (kO rfl (a_add rfl rfl (by omega) (kM rfl rfl (i_nil (then_n ?_)))))))))))))))))))))
     exact ⟨rfl, _, _, _, (show M - (w + 1) < M - w by omega), (lc 1 rfl (lc 2 rfl (lc 6 rfl (lc 8 rfl (lc 26 rfl (lc 27 rfl Less.nil)))))), (.q (.cons _ (.q (.r (.q (.q .slnil)))))), ⟨w + 1, b17, _, _, rfl, (by rw [List.set_cons_zero, show ptL Dt4 ps (w + 1) = ptL Dt4 ps w ++ [_] from rfl, snoc1, hpv9, <- hlo, <- hhi]), rfl, by omega, (.inl ⟨rfl, rfl⟩)⟩⟩
   ·have hwM9 : w = M := by omega
    refine i_nil (rQ (r_cond_f rfl (r_exit (then_e (then_e (block_hit (then_n (rS (kM rfl rfl (kM rfl rfl (kM rfl rfl (i_nil (r_ret ?_)))))))))))))
    have hwM : w = M := by omega
    subst hwM
    exact end2A rfl rfl (.q (.cons _ (List.sublist_append_of_sublist_right (.cons _ (.cons _ .slnil))))) (.inr (.inr ⟨hsys, hc2, _, _, _, _, rfl, rfl, hDT⟩))
  ·refine i_nil (r_cond_f rfl (r_skip (then_n (rS (kO rfl (a_lit rfl rfl rfl (fun b18 => (kM rfl rfl (i_nil (rQ (rS (kO rfl (a_fa rfl (kO rfl (a_ld rfl (.next (.app (.next .here))) rfl (kM rfl rfl (i_nil (r_block ?_))))))))))))))))))
   refine r_loop (fun j e A => ∃ (w b cp : Nat) (op : Bool), e = [(1, .slice ap ps.length cpk), (2, .pointer (some ⟨b1, 0, none⟩)), (6, .slice (some ⟨bt2, 0, none⟩) (M + 1) (M + 1)), (8, .slice (some ⟨b, 0, none⟩) (w + 1) cp), (26, .int .i64 (M : Int)), (27, .int .i64 (w : Int))] /\ A = (.row b 3 op (ints (ptL Dt4 ps w)) :: (seg Bt3 (M + 1) Dt4 (M + 1) ++ (.row bt2 25 false (slsT Bt3 (M + 1) (M + 1) (M + 1)) :: (.row b1 29 false ([.int .i64 (M : Int), .slice al ls.length cl]) :: [])))) /\ j = M - w /\ w <= M /\ FT op cp w) 700 844424930131968 281474976710656 ?_ (j := _) (env2 := _) (A2 := _) ?_ ?_ ?_ ?_ ⟨0, b18, 1, false, rfl, rfl, rfl, Nat.zero_le _, (.inr ⟨rfl, rfl, rfl⟩)⟩
   rotate_left
   ·omega
   ·omega
   ·exact (lc 1 rfl (lc 2 rfl (lc 6 rfl (lc 8 rfl (lc 26 rfl (lc 27 rfl Less.nil))))))
   ·exact (.q (.r (.q (.q .slnil))))
   rintro n hn j _ _ ⟨w, b, cp, op, rfl, rfl, rfl, hw, hT⟩
   obtain ⟨hPk, hNb, _⟩ := ptL_ok (ps := ps) hDT hS hM hw
   have hlw : (ptL Dt4 ps w).length = w + 1 := ptL_len
   refine rS (kO rfl (a_lss rfl rfl (fun h19 => ?_) (fun h19 => ?_)))
   ·refine i_nil (rQ (r_cond_t rfl (r_skip (then_n (rQ (r_block (rS (kM rfl rfl (kM rfl rfl (i_nil (rS (kM rfl rfl (kM rfl rfl (kG rfl rfl (a_inl rfl rfl bw40_at rfl ?_)))))))))))))))
    unfold bw40
    refine rS (kM rfl rfl (kM rfl rfl (i_nil (rS (kM rfl rfl (kM rfl rfl (i_nil (rS (kM rfl rfl (kO rfl (a_len rfl (kM rfl rfl (i_nil (rQ (rS (kM rfl rfl (kO rfl (a_len rfl (kM rfl rfl (i_nil (r_block ?_)))))))))))))))))))))
    refine r_loop (fun j e A => ∃ (k : Nat) (lo hi : Int), e = [(0, .slice (some ⟨bt2, 0, none⟩) (M + 1) (M + 1)), (4, .int .i64 lo), (5, .int .i64 hi), (6, .int .i64 ((w + 1 : Nat) : Int)), (13, .slice (some ⟨b, 0, none⟩) (w + 1) cp), (14, .int .i64 ((w + 1 : Nat) : Int)), (15, .int .i64 (k : Int))] /\ A = (.row b 3 op (ints (ptL Dt4 ps w)) :: (seg Bt3 (M + 1) Dt4 (M + 1) ++ (.row bt2 25 false (slsT Bt3 (M + 1) (M + 1) (M + 1)) :: (.row b1 29 false ([.int .i64 (M : Int), .slice al ls.length cl]) :: [])))) /\ j = w + 1 - k /\ k <= w + 1 /\ lo = loV Dt4 (ptL Dt4 ps w) (w + 1) k /\ hi = hiV Dt4 (ptL Dt4 ps w) (w + 1) k) 300 281474976710656 281474976710656 ?_ (j := _) (env2 := _) (A2 := _) ?_ ?_ ?_ ?_ ⟨0, _, _, rfl, rfl, rfl, Nat.zero_le _, rfl, rfl⟩
    rotate_left
    ·omega
    ·omega
    ·exact (lc 0 rfl (lc 4 rfl (lc 5 rfl (lc 6 rfl (lc 13 rfl (lc 14 rfl (lc 15 rfl Less.nil)))))))
    ·exact (.q (.r (.q (.q .slnil))))
    rintro n hn j _ _ ⟨k, lo, hi, rfl, rfl, rfl, hk, hlo, hhi⟩
    refine rS (kO rfl (a_lss rfl rfl (fun h20 => ?_) (fun h20 => ?_)))
    ·have hl1 := hS.lo (w + 1) k (by omega) (by omega)
     have hl2 := hS.hi (w + 1) k (by omega) (by omega)
     have hl3 := hS.lo k (w + 1) (by omega) (by omega)
     have hl4 := hS.hi k (w + 1) (by omega) (by omega)
     have hx1 := hNb k (by omega)
     have blo := lo_bd hS (n := w + 1) (by omega) hNb (by omega) (k := k) (by omega) (by omega)
     have bhi := hi_bd hS (n := w + 1) (by omega) hNb (by omega) (k := k) (by omega) (by omega)
     rw [<- hlo] at blo
     rw [<- hhi] at bhi
     refine i_nil (rQ (r_cond_t rfl (r_skip (then_n (rQ (r_block (rS (kM rfl rfl (kO rfl (a_ia (j := k) rfl rfl (by omega) (by omega) (kO rfl (a_ldI rfl .here (by first | omega | (simp; done) | (simp; omega)) (kM rfl rfl (kM rfl rfl (i_nil (rQ (rS (kM rfl rfl (kM rfl rfl (kO rfl (a_ia (j := (w + 1)) rfl rfl (by omega) (by omega) (kO rfl (a_ld rfl (.next (.app .here)) (sls_get (by omega) (by omega)) (kM rfl rfl (kO rfl (a_ia (j := k) rfl rfl (by omega) (by omega) (kO rfl (a_ldX (x := (Dt4) ((w + 1)) (k)) rfl (.next (own_seg (by omega))) (by rw [rowT_len]; omega) (rowT_get (by omega)) (kM rfl rfl ?_)))))))))))))))))))))))))))))
     refine i_nil (rS (kM rfl rfl (kO rfl (a_neq rfl rfl (fun h21 => ?_) (fun h21 => ?_)))))
     ·refine i_nil (r_cond_t rfl (rI (kM rfl rfl (kM rfl rfl (kM rfl rfl (kO rfl (a_sub rfl rfl (by omega) (kO rfl (a_max rfl (kM rfl rfl (i_nil (then_n (rS (kM rfl rfl (kM rfl rfl (kO rfl (a_ia (j := k) rfl rfl (by omega) (by omega) (kO rfl (a_ld rfl (.next (.app .here)) (sls_get (by omega) (by omega)) (kM rfl rfl (kO rfl (a_ia (j := (w + 1)) rfl rfl (by omega) (by omega) (kO rfl (a_ldX (x := (Dt4) (k) ((w + 1))) rfl (.next (own_seg (by omega))) (by rw [rowT_len]; omega) (rowT_get (by omega)) (kM rfl rfl (i_nil (rS (kM rfl rfl (kO rfl (a_neq rfl rfl (fun h22 => ?_) (fun h22 => ?_)))))))))))))))))))))))))))))))
      ·refine i_nil (r_cond_t rfl (rI (kM rfl rfl (kM rfl rfl (kM rfl rfl (kO rfl (a_add rfl rfl (by omega) (kO rfl (a_min rfl (kM rfl rfl (i_nil (block_n (then_n (rI (kO rfl (a_add rfl rfl (by omega) (kM rfl rfl (i_nil (then_n ?_)))))))))))))))))))
       exact ⟨rfl, _, _, _, (show w + 1 - (k + 1) < w + 1 - k by omega), (lc 0 rfl (lc 4 rfl (lc 5 rfl (lc 6 rfl (lc 13 rfl (lc 14 rfl (lc 15 rfl Less.nil))))))), (.q (.r (.q (.q .slnil)))), ⟨k + 1, _, _, rfl, rfl, rfl, by omega, (by first | exact lo_free hlo (by assumption) | exact lo_some hlo (by assumption)), (by first | exact hi_free hhi (by assumption) | exact hi_some hhi (by assumption))⟩⟩
      ·refine i_nil (r_cond_f rfl (r_skip (block_n (then_n (rI (kO rfl (a_add rfl rfl (by omega) (kM rfl rfl (i_nil (then_n ?_))))))))))
       exact ⟨rfl, _, _, _, (show w + 1 - (k + 1) < w + 1 - k by omega), (lc 0 rfl (lc 4 rfl (lc 5 rfl (lc 6 rfl (lc 13 rfl (lc 14 rfl (lc 15 rfl Less.nil))))))), (.q (.r (.q (.q .slnil)))), ⟨k + 1, _, _, rfl, rfl, rfl, by omega, (by first | exact lo_free hlo (by assumption) | exact lo_some hlo (by assumption)), (by first | exact hi_free hhi (by assumption) | exact hi_some hhi (by assumption))⟩⟩
     ·refine i_nil (r_cond_f rfl (r_skip (then_n (rS (kM rfl rfl (kM rfl rfl (kO rfl (a_ia (j := k) rfl rfl (by omega) (by omega) (kO rfl (a_ld rfl (.next (.app .here)) (sls_get (by omega) (by omega)) (kM rfl rfl (kO rfl (a_ia (j := (w + 1)) rfl rfl (by omega) (by omega) (kO rfl (a_ldX (x := (Dt4) (k) ((w + 1))) rfl (.next (own_seg (by omega))) (by rw [rowT_len]; omega) (rowT_get (by omega)) (kM rfl rfl (i_nil (rS (kM rfl rfl (kO rfl (a_neq rfl rfl (fun h23 => ?_) (fun h23 => ?_))))))))))))))))))))))
      ·refine i_nil (r_cond_t rfl (rI (kM rfl rfl (kM rfl rfl (kM rfl rfl (kO rfl (a_add rfl rfl (by omega) (kO rfl (a_min rfl (kM rfl rfl (i_nil (block_n (then_n (rI (kO rfl (a_add rfl rfl (by omega) (kM rfl rfl (i_nil (then_n ?_)))))))))))))))))))
       exact ⟨rfl, _, _, _, (show w + 1 - (k + 1) < w + 1 - k by omega), (lc 0 rfl (lc 4 rfl (lc 5 rfl (lc 6 rfl (lc 13 rfl (lc 14 rfl (lc 15 rfl Less.nil))))))), (.q (.r (.q (.q .slnil)))), ⟨k + 1, _, _, rfl, rfl, rfl, by omega, (by first | exact lo_free hlo (by assumption) | exact lo_some hlo (by assumption)), (by first | exact hi_free hhi (by assumption) | exact hi_some hhi (by assumption))⟩⟩
      ·refine i_nil (r_cond_f rfl (r_skip (block_n (then_n (rI (kO rfl (a_add rfl rfl (by omega) (kM rfl rfl (i_nil (then_n ?_))))))))))
       exact ⟨rfl, _, _, _, (show w + 1 - (k + 1) < w + 1 - k by omega), (lc 0 rfl (lc 4 rfl (lc 5 rfl (lc 6 rfl (lc 13 rfl (lc 14 rfl (lc 15 rfl Less.nil))))))), (.q (.r (.q (.q .slnil)))), ⟨k + 1, _, _, rfl, rfl, rfl, by omega, (by first | exact lo_free hlo (by assumption) | exact lo_some hlo (by assumption)), (by first | exact hi_free hhi (by assumption) | exact hi_some hhi (by assumption))⟩⟩
    ·have hkw : k = w + 1 := by omega
     subst hkw
     have blo := lo_bd hS (n := w + 1) (by omega) hNb (by omega) (k := w + 1) (by omega) (Nat.le_refl _)
     have bhi := hi_bd hS (n := w + 1) (by omega) hNb (by omega) (k := w + 1) (by omega) (Nat.le_refl _)
     have hroom := lo_hi hDT (by omega) hPk (lo_Lo hS (by omega) hNb (by omega) (Nat.le_refl _)) (hi_Hi hS (by omega) hNb (by omega) (Nat.le_refl _))
     rw [hlw, <- hlo, <- hhi] at hroom
     rw [<- hlo] at blo
     rw [<- hhi] at bhi
     refine i_nil (rQ (r_cond_f rfl (r_exit (then_e (then_e (block_hit (then_n (rS (kM rfl rfl (kM rfl rfl (kM rfl rfl (kM rfl rfl (i_nil (r_ret (endD2 rfl rfl .nil (kM rfl rfl (kO rfl (a_ext rfl rfl (kO rfl (a_ext rfl rfl (kM rfl rfl (kM rfl rfl (i_nil (rI (kM rfl rfl ?_)))))))))))))))))))))))))
     refine kM rfl rfl (kM rfl rfl (kM rfl rfl (kM rfl rfl (kM rfl rfl (kO rfl (a_lenx rfl hP.spot (kO rfl (a_rem rfl rfl (by omega) ?_))))))))
     have hpv9 : pkV ps w = ps.getD (w % ps.length) 0 := if_neg (by omega)
     have hmd9 : w % ps.length < ps.length := Nat.mod_lt _ (by omega)
     refine kO rfl (a_iaI (j := w % ps.length) hP rfl rfl rfl rfl (by omega) (fun _ _ a99 => (kO rfl (a_ldr rfl (hP.at a99 (by omega)) (kO rfl (a_callV rfl rfl (fun s1 h1 => choose_s _ _ _ _ s1 h1.wf (by omega) (by omega) hroom) (kO rfl (a_lit rfl rfl rfl (fun b25 => (kO rfl (a_app rfl rfl (Src.own .here rfl (by simp)) (.next .here) (by rw [ints_len, hlw, Nat.mul_one]) (tight_of hT) (by decide) (by omega) (by omega) (fun b26 => (kM rfl rfl (i_nil (block_n (then_n (rI (kO rfl (a_add rfl rfl (by omega) (kM rfl rfl (i_nil (then_n ?_))))))))))))))))))))))
     exact ⟨rfl, _, _, _, (show M - (w + 1) < M - w by omega), (lc 1 rfl (lc 2 rfl (lc 6 rfl (lc 8 rfl (lc 26 rfl (lc 27 rfl Less.nil)))))), (.q (.cons _ (.r (.q (.q .slnil))))), ⟨w + 1, b26, _, _, rfl, (by rw [List.set_cons_zero, show ptL Dt4 ps (w + 1) = ptL Dt4 ps w ++ [_] from rfl, snoc1, hpv9, <- hlo, <- hhi]), rfl, by omega, (.inl ⟨rfl, rfl⟩)⟩⟩
   ·have hwM9 : w = M := by omega
    refine i_nil (rQ (r_cond_f rfl (r_exit (then_e (then_e (block_hit (then_n (rS (kM rfl rfl (kM rfl rfl (kM rfl rfl (i_nil (r_ret ?_)))))))))))))
    have hwM : w = M := by omega
    subst hwM
    exact end2A rfl rfl (.q (List.sublist_append_of_sublist_right (.cons _ (.cons _ .slnil)))) (.inr (.inr ⟨hsys, hc2, _, _, _, _, rfl, rfl, hDT⟩))
end
end Ev
end Go.Proofs.Ytoeklhdklcpllaa
namespace Go.Proofs.Ytoeklhdklcpllaa
open Go Go.RowKit
namespace Ev
theorem kp_all {ls : List (List Int)} {M : Nat} {x : List Int} (hl : lmB (M : Int) ls = true) (h : kpB x ls = true) : ∀ i, i < ls.length -> x.getD (lb ls i) 0 <= x.getD (la ls i) 0 + lw ls i := by
 have key : ∀ k, k <= ls.length -> kpB x (ls.drop k) = true := by
  intro k
  induction k with
  | zero => intro _; rw [List.drop_zero]; exact h
  | succ k ih =>
   intro hk
   have h1 := ih (by omega)
   obtain ⟨y3, e⟩ := (lim_of hl (show k < ls.length by omega)).row
   rw [kp_step e, Bool.and_eq_true] at h1
   exact h1.2
 intro i hi
 have h1 := key i (by omega)
 obtain ⟨y3, e⟩ := (lim_of hl hi).row
 rw [kp_step e, Bool.and_eq_true, Int.toNat_natCast, Int.toNat_natCast] at h1
 have h2 := of_decide_eq_true h1.1
 omega
theorem pt_kp {m : Int} {ls : List (List Int)} {x : List Int} (h : ptB m ls x = true) : kpB x ls = true := by
 unfold ptB at h
 rw [Bool.and_eq_true] at h
 exact h.2
theorem nb_fit {x : List Int} {c : Int} (h : Nb x c) (hc : c <= 1000000000) : ∀ z ∈ x, -9223372036854775808 <= z /\ z < 9223372036854775808 := fun z hz => by
 obtain ⟨i, hi, rfl⟩ := List.getElem_of_mem hz
 have h1 := h i hi
 rw [List.getD_eq_getElem?_getD, List.getElem?_eq_getElem hi] at h1
 have h3 : -c <= x[i] /\ x[i] <= c := h1
 omega
section
variable {X : FuncId -> List Value -> St -> (Value -> St -> Bool) -> Bool}
end
end Ev
end Go.Proofs.Ytoeklhdklcpllaa
namespace Go.Proofs.Ytoeklhdklcpllaa
open Go Go.RowKit
namespace Ev
theorem tot_congr {f g : Nat -> Int} : ∀ {N : Nat}, (∀ i, i < N -> f i = g i) -> tot f N = tot g N
 | 0, _ => rfl
 | N + 1, h => by show tot f N + f N = tot g N + g N; rw [tot_congr (N := N) (fun i hi => h i (by omega)), h N (by omega)]
theorem tot_le {f g : Nat -> Int} : ∀ {N : Nat}, (∀ i, i < N -> f i <= g i) -> tot f N <= tot g N
 | 0, _ => Int.le_refl _
 | N + 1, h => by
  have h1 := tot_le (N := N) (fun i hi => h i (by omega))
  have h2 := h N (by omega)
  show tot f N + f N <= tot g N + g N
  omega
theorem tot_add {f g : Nat -> Int} : ∀ {N : Nat}, tot (fun i => f i + g i) N = tot f N + tot g N
 | 0 => rfl
 | N + 1 => by
  have h1 := tot_add (f := f) (g := g) (N := N)
  show tot (fun i => f i + g i) N + (f N + g N) = tot f N + f N + (tot g N + g N)
  omega
theorem tot_sub {f g : Nat -> Int} : ∀ {N : Nat}, tot (fun i => f i - g i) N = tot f N - tot g N
 | 0 => rfl
 | N + 1 => by
  have h1 := tot_sub (f := f) (g := g) (N := N)
  show tot (fun i => f i - g i) N + (f N - g N) = tot f N + f N - (tot g N + g N)
  omega
theorem tot_nil {f : Nat -> Int} : ∀ {N : Nat}, (∀ i, i < N -> f i = 0) -> tot f N = 0
 | 0, _ => rfl
 | N + 1, h => by show tot f N + f N = 0; rw [tot_nil (N := N) (fun i hi => h i (by omega)), h N (by omega)]; rfl
theorem tot_nn {f : Nat -> Int} {N : Nat} (h : ∀ i, i < N -> 0 <= f i) : 0 <= tot f N := by
 have := tot_le (f := fun _ => 0) (g := f) h
 rwa [tot_nil (fun _ _ => rfl)] at this
theorem tot_one {c : Nat -> Int} {a : Nat} : ∀ {N : Nat}, a < N -> tot (fun v => if a = v then c v else 0) N = c a
 | N + 1, h => by
  show tot (fun v => if a = v then c v else 0) N + (if a = N then c N else 0) = c a
  by_cases q : a = N
  ·subst q
   rw [if_pos rfl, tot_nil (fun i hi => if_neg (by omega))]; omega
  ·rw [if_neg q, tot_one (N := N) (by omega)]; omega
theorem tot_mem {f : Nat -> Int} : ∀ {N : Nat}, (∀ i, i < N -> 0 <= f i) -> ∀ i, i < N -> f i <= tot f N
 | N + 1, h, i, hi => by
  have h1 := tot_nn (f := f) (N := N) (fun i hi => h i (by omega))
  show f i <= tot f N + f N
  by_cases q : i = N
  ·subst q; omega
  ·have := tot_mem (N := N) (fun i hi => h i (by omega)) i (by omega)
   have := h N (by omega)
   omega
def net (ts : List (List Int)) (t : Nat -> Int) : Nat -> Nat -> Int
 | 0, _ => 0
 | k + 1, v => net ts t k v + ((if lb ts k = v then t k else 0) - (if la ts k = v then t k else 0))
theorem dot_net {ts : List (List Int)} {t x : Nat -> Int} {N : Nat} : ∀ {k : Nat}, (∀ i, i < k -> la ts i < N /\ lb ts i < N) -> tot (fun v => x v * net ts t k v) N = tot (fun i => t i * (x (lb ts i) - x (la ts i))) k
 | 0, _ => tot_nil (fun i _ => Int.mul_zero _)
 | k + 1, h => by
  have ih := dot_net (t := t) (x := x) (k := k) (fun i hi => h i (by omega))
  obtain ⟨ha, hb⟩ := h k (by omega)
  have e : ∀ v, v < N -> x v * net ts t (k + 1) v = x v * net ts t k v + ((if lb ts k = v then x v * t k else 0) - (if la ts k = v then x v * t k else 0)) := fun v _ => by
   show x v * (net ts t k v + ((if lb ts k = v then t k else 0) - (if la ts k = v then t k else 0))) = _
   rw [Int.mul_add, Int.mul_sub]
   congr 1
   congr 1
   ·split <;> simp
   ·split <;> simp
  rw [tot_congr e, tot_add, tot_sub, ih, tot_one (c := fun v => x v * t k) hb, tot_one (c := fun v => x v * t k) ha]
  show _ = tot _ k + t k * (x (lb ts k) - x (la ts k))
  rw [Int.mul_sub, Int.mul_comm (t k), Int.mul_comm (t k)]
theorem dual_le {ts : List (List Int)} {t x : Nat -> Int} {K : Nat} (hn : ∀ i, i < K -> 0 <= t i) (hx : ∀ i, i < K -> x (lb ts i) <= x (la ts i) + lw ts i) : tot (fun i => t i * (x (lb ts i) - x (la ts i))) K <= tot (fun i => t i * lw ts i) K :=
 tot_le (fun i hi => Int.mul_le_mul_of_nonneg_left (by have := hx i hi; omega) (hn i hi))
theorem dual_eq {ts : List (List Int)} {t x : Nat -> Int} {K : Nat} (hx : ∀ i, i < K -> ¬ t i = 0 -> x (lb ts i) = x (la ts i) + lw ts i) : tot (fun i => t i * (x (lb ts i) - x (la ts i))) K = tot (fun i => t i * lw ts i) K :=
 tot_congr (fun i hi => by
  by_cases q : t i = 0
  ·rw [q, Int.zero_mul, Int.zero_mul]
  ·rw [hx i hi q]; congr 1; omega)
def ind (U : Nat -> Bool) (v : Nat) : Int := if U v = true then 1 else 0
theorem cut_le {ts : List (List Int)} {t : Nat -> Int} {U : Nat -> Bool} {N K : Nat} (hN : ∀ i, i < K -> la ts i < N /\ lb ts i < N) (hn : ∀ i, i < K -> 0 <= t i) (hU : ∀ i, i < K -> U (lb ts i) = true -> U (la ts i) = true) : tot (fun v => ind U v * net ts t K v) N <= 0 := by
 rw [dot_net hN]
 have := tot_le (f := fun i => t i * (ind U (lb ts i) - ind U (la ts i))) (g := fun _ => 0) (N := K) (fun i hi => by
  have h1 := hn i hi
  have h2 := hU i hi
  show t i * (ind U (lb ts i) - ind U (la ts i)) <= 0
  unfold ind
  by_cases q : U (lb ts i) = true
  ·rw [if_pos q, if_pos (h2 q)]; simp
  ·rw [if_neg q]
   split
   ·rw [show t i * (0 - 1) = - t i by omega]; omega
   ·simp)
 rwa [tot_nil (fun _ _ => rfl)] at this
def Lg (M : Nat) (ts : List (List Int)) : Prop := ∀ i, i < ts.length -> la ts i < M + 1 /\ lb ts i < M + 1 /\ la ts i ≠ lb ts i /\ -20000 <= lw ts i /\ lw ts i <= 1280001 /\ ∃ y3, ts[i]? = some [((la ts i : Nat) : Int), ((lb ts i : Nat) : Int), lw ts i, y3]
theorem lw_bd' {ls : List (List Int)} {M i : Nat} (hl : lmB (M : Int) ls = true) (hi : i < ls.length) : -20000 <= lw ls i /\ lw ls i <= 20000 := by
 obtain ⟨u0, u1, y2, y3, e, hc⟩ := lm_row hl hi
 have e3 : ls.getD i [] = [(u0 : Int), (u1 : Int), y2, y3] := by rw [List.getD_eq_getElem?_getD, e]; rfl
 have e2 : lw ls i = y2 := by unfold lw; rw [e3]; rfl
 omega
theorem lg_of {M : Nat} {ls : List (List Int)} (hl : lmB (M : Int) ls = true) : Lg M ls := fun i hi => by
 have hL := lim_of hl hi
 obtain ⟨u0, u1, y2, y3, e, hc⟩ := lm_row hl hi
 have e3 : ls.getD i [] = [(u0 : Int), (u1 : Int), y2, y3] := by rw [List.getD_eq_getElem?_getD, e]; rfl
 have e2 : lw ls i = y2 := by unfold lw; rw [e3]; rfl
 exact ⟨hL.ha, hL.hb, hL.ne, by omega, by omega, hL.row⟩
def tollL : Nat -> List (List Int)
 | 0 => []
 | m + 1 => tollL m ++ [[0, ((m + 1 : Nat) : Int), 1280001, 0], [((m + 1 : Nat) : Int), 0, 1280001, 0]]
theorem toll_len : ∀ {m : Nat}, (tollL m).length = 2 * m
 | 0 => rfl
 | m + 1 => by
  show (tollL m ++ _).length = _
  rw [List.length_append, toll_len]; show 2 * m + 2 = _; omega
theorem toll_up {i : Nat} : ∀ {m : Nat}, i < m -> (tollL m)[2 * i]? = some [0, ((i + 1 : Nat) : Int), 1280001, 0] /\ (tollL m)[2 * i + 1]? = some [((i + 1 : Nat) : Int), 0, 1280001, 0]
 | m + 1, h => by
  show (tollL m ++ _)[2 * i]? = _ /\ (tollL m ++ _)[2 * i + 1]? = _
  by_cases q : i = m
  ·subst q
   rw [List.getElem?_append_right (by rw [toll_len]; omega), List.getElem?_append_right (by rw [toll_len]; omega), toll_len, Nat.sub_self, show 2 * i + 1 - 2 * i = 1 by omega]
   exact ⟨rfl, rfl⟩
  ·rw [List.getElem?_append_left (by rw [toll_len]; omega), List.getElem?_append_left (by rw [toll_len]; omega)]
   exact toll_up (by omega)
theorem fld {ts : List (List Int)} {i a b : Nat} {w y : Int} (h : ts[i]? = some [(a : Int), (b : Int), w, y]) : la ts i = a /\ lb ts i = b /\ lw ts i = w := by
 have e : ts.getD i [] = [(a : Int), (b : Int), w, y] := by rw [List.getD_eq_getElem?_getD, h]; rfl
 refine ⟨?_, ?_, ?_⟩
 ·unfold la; rw [e]; exact Int.toNat_natCast a
 ·unfold lb; rw [e]; exact Int.toNat_natCast b
 ·unfold lw; rw [e]; rfl
theorem app_fld {ls us : List (List Int)} {i : Nat} (h : i < ls.length) : la (ls ++ us) i = la ls i /\ lb (ls ++ us) i = lb ls i /\ lw (ls ++ us) i = lw ls i := by
 have e : (ls ++ us).getD i [] = ls.getD i [] := by rw [List.getD_eq_getElem?_getD, List.getElem?_append_left h, <- List.getD_eq_getElem?_getD]
 unfold la lb lw
 rw [e]; exact ⟨rfl, rfl, rfl⟩
theorem tl_up {ls : List (List Int)} {m i : Nat} (h : i < m) : (ls ++ tollL m)[ls.length + 2 * i]? = some [((0 : Nat) : Int), ((i + 1 : Nat) : Int), 1280001, 0] /\ (ls ++ tollL m)[ls.length + 2 * i + 1]? = some [((i + 1 : Nat) : Int), ((0 : Nat) : Int), 1280001, 0] := by
 rw [List.getElem?_append_right (by omega), List.getElem?_append_right (by omega), show ls.length + 2 * i - ls.length = 2 * i by omega, show ls.length + 2 * i + 1 - ls.length = 2 * i + 1 by omega]
 exact toll_up h
theorem lg_tl {M : Nat} {ls : List (List Int)} (hl : lmB (M : Int) ls = true) : Lg M (ls ++ tollL M) := fun i hi => by
 by_cases q : i < ls.length
 ·obtain ⟨e1, e2, e3⟩ := app_fld (us := tollL M) q
  obtain ⟨h1, h2, h3, h4, h5, y3, h6⟩ := lg_of hl i q
  rw [e1, e2, e3, List.getElem?_append_left q]
  exact ⟨h1, h2, h3, h4, h5, y3, h6⟩
 ·rw [List.length_append, toll_len] at hi
  obtain ⟨j, hj, hd⟩ : ∃ j, j < M /\ (i = ls.length + 2 * j ∨ i = ls.length + 2 * j + 1) := ⟨(i - ls.length) / 2, by omega, by omega⟩
  obtain ⟨t1, t2⟩ := tl_up (ls := ls) hj
  rcases hd with rfl | rfl
  ·obtain ⟨e1, e2, e3⟩ := fld t1
   rw [e1, e2, e3]
   exact ⟨by omega, by omega, by omega, by omega, by omega, 0, t1⟩
  ·obtain ⟨e1, e2, e3⟩ := fld t2
   rw [e1, e2, e3]
   exact ⟨by omega, by omega, by omega, by omega, by omega, 0, t2⟩
structure Opt (ls : List (List Int)) (N : Nat) (w t p : Nat -> Int) : Prop where
 nn : ∀ i, i < ls.length -> 0 <= t i
 nt : ∀ v, v < N -> net ls t ls.length v = w v
 st : ∀ i, i < ls.length -> p (lb ls i) <= p (la ls i) + lw ls i
 ti : ∀ i, i < ls.length -> 0 < t i -> p (lb ls i) = p (la ls i) + lw ls i
theorem Opt.eq {ls : List (List Int)} {N : Nat} {w t p : Nat -> Int} (h : Opt ls N w t p) (hN : ∀ i, i < ls.length -> la ls i < N /\ lb ls i < N) : tot (fun v => p v * w v) N = tot (fun i => t i * lw ls i) ls.length := by
 rw [<- dual_eq (x := p) (fun i hi q => h.ti i hi (by have := h.nn i hi; omega)), <- dot_net hN]
 exact tot_congr (fun v hv => by rw [h.nt v hv])
theorem Opt.le {ls : List (List Int)} {N : Nat} {w t p x : Nat -> Int} (h : Opt ls N w t p) (hN : ∀ i, i < ls.length -> la ls i < N /\ lb ls i < N) (hx : ∀ i, i < ls.length -> x (lb ls i) <= x (la ls i) + lw ls i) : tot (fun v => x v * w v) N <= tot (fun i => t i * lw ls i) ls.length := by
 have := dual_le (t := t) h.nn hx
 rw [<- dot_net hN] at this
 rwa [tot_congr (fun v hv => by rw [<- h.nt v hv])]
def Opn (ls : List (List Int)) (N : Nat) (w : Nat -> Int) : Prop := ∃ U : Nat -> Bool, (∀ i, i < ls.length -> U (lb ls i) = true -> U (la ls i) = true) /\ 0 < tot (fun v => ind U v * w v) N
theorem Opn.not {ls : List (List Int)} {N : Nat} {w t : Nat -> Int} (h : Opn ls N w) (hN : ∀ i, i < ls.length -> la ls i < N /\ lb ls i < N) (hn : ∀ i, i < ls.length -> 0 <= t i) (ht : ∀ v, v < N -> net ls t ls.length v = w v) : False := by
 obtain ⟨U, h1, h2⟩ := h
 have h3 := cut_le hN hn h1
 rw [tot_congr (fun v hv => by rw [ht v hv])] at h3
 omega
structure Ld (ts : List (List Int)) (N : Nat) (w due t p : Nat -> Int) : Prop where
 nn : ∀ i, i < ts.length -> 0 <= t i
 nt : ∀ v, v < N -> net ts t ts.length v = w v - due v
 st : ∀ i, i < ts.length -> p (lb ts i) <= p (la ts i) + lw ts i
 ti : ∀ i, i < ts.length -> 0 < t i -> p (lb ts i) = p (la ts i) + lw ts i
theorem net_app {ls us : List (List Int)} {t : Nat -> Int} {v : Nat} : ∀ {k : Nat}, k <= ls.length -> net (ls ++ us) t k v = net ls t k v
 | 0, _ => rfl
 | k + 1, h => by
  obtain ⟨e1, e2, _⟩ := app_fld (us := us) (show k < ls.length by omega)
  show net (ls ++ us) t k v + _ = net ls t k v + _
  rw [net_app (by omega), e1, e2]
theorem net_stop {ts : List (List Int)} {t : Nat -> Int} {v K0 : Nat} : ∀ {K : Nat}, K0 <= K -> (∀ i, K0 <= i -> i < K -> t i = 0) -> net ts t K v = net ts t K0 v
 | 0, h, _ => by rw [show K0 = 0 by omega]
 | K + 1, h, ht => by
  by_cases q : K0 = K + 1
  ·rw [q]
  ·show net ts t K v + _ = _
   rw [net_stop (K := K) (by omega) (fun i hi hk => ht i hi (by omega)), ht K (by omega) (by omega)]
   simp
theorem ld_opt {ls : List (List Int)} {M : Nat} {w due t p : Nat -> Int} (h : Ld (ls ++ tollL M) (M + 1) w due t p) (hd : ∀ v, v < M + 1 -> due v = 0) (ht : ∀ i, ls.length <= i -> i < (ls ++ tollL M).length -> t i = 0) : Opt ls (M + 1) w t p := by
 have hlen : ls.length <= (ls ++ tollL M).length := by rw [List.length_append]; omega
 refine ⟨fun i hi => h.nn i (by omega), fun v hv => ?_, fun i hi => ?_, fun i hi hp => ?_⟩
 ·have := h.nt v hv
  rw [net_stop hlen ht, net_app (Nat.le_refl _), hd v hv] at this
  omega
 ·have := h.st i (by omega)
  obtain ⟨e1, e2, e3⟩ := app_fld (us := tollL M) hi
  rwa [e1, e2, e3] at this
 ·have := h.ti i (by omega) hp
  obtain ⟨e1, e2, e3⟩ := app_fld (us := tollL M) hi
  rwa [e1, e2, e3] at this
theorem gap {M : Nat} {p : Nat -> Int} {a b : Nat} (hM : M <= 64) (ha : a < M + 1) (hb : b < M + 1) (h : p b = p a + 1280001) : ∃ c : Int, p a <= c /\ c + 20000 < p b /\ ∀ u, u < M + 1 -> p u <= c ∨ c + 20000 < p u := by
 refine Classical.byContradiction (fun q => ?_)
 have hall : ∀ j : Nat, j < 64 -> ∃ u, u < M + 1 /\ p a + 20000 * (j : Int) < p u /\ p u <= p a + 20000 * (j : Int) + 20000 := fun j hj => by
  refine Classical.byContradiction (fun r => q ⟨p a + 20000 * (j : Int), by omega, by omega, fun u hu => ?_⟩)
  by_cases c1 : p u <= p a + 20000 * (j : Int)
  ·exact .inl c1
  ·exact .inr (by refine Classical.byContradiction (fun c2 => r ⟨u, hu, by omega, by omega⟩))
 have hf : ∀ j : Nat, ∃ u, u < M + 1 /\ (j < 64 -> p a + 20000 * (j : Int) < p u /\ p u <= p a + 20000 * (j : Int) + 20000) := fun j => by
  by_cases hj : j < 64
  ·obtain ⟨u, h1, h2, h3⟩ := hall j hj
   exact ⟨u, h1, fun _ => ⟨h2, h3⟩⟩
  ·exact ⟨a, ha, fun r => absurd r hj⟩
 have key := fun j => (hf j).choose_spec
 obtain ⟨i, j, h1, h2, h3⟩ := pigeon 65 (fun j => if j = 64 then a else if j = 65 then b else (hf j).choose) (fun i hi => by
  show (if i = 64 then a else if i = 65 then b else (hf i).choose) < 65
  have := (key i).1
  split
  ·omega
  ·split <;> omega)
 have h3' : (if i = 64 then a else if i = 65 then b else (hf i).choose) = (if j = 64 then a else if j = 65 then b else (hf j).choose) := h3
 by_cases i64 : i = 64
 ·rw [if_pos i64, if_neg (by omega), if_pos (by omega)] at h3'
  rw [<- h3'] at h; omega
 ·have ki := (key i).2 (by omega)
  rw [if_neg i64, if_neg (by omega)] at h3'
  by_cases j64 : j = 64
  ·rw [if_pos j64] at h3'; rw [h3'] at ki; omega
  ·rw [if_neg j64] at h3'
   by_cases j65 : j = 65
   ·rw [if_pos j65] at h3'; rw [h3'] at ki; omega
   ·rw [if_neg j65] at h3'
    have kj := (key j).2 (by omega)
    rw [<- h3'] at kj
    omega
theorem ld_opn {ls : List (List Int)} {M : Nat} {w due t p : Nat -> Int} (hl : lmB (M : Int) ls = true) (hM : M <= 64) (h : Ld (ls ++ tollL M) (M + 1) w due t p) (hd : ∀ v, v < M + 1 -> due v = 0) {i : Nat} (hi : ls.length <= i) (hi2 : i < (ls ++ tollL M).length) (ht : 0 < t i) : Opn ls (M + 1) w := by
 have hlen : (ls ++ tollL M).length = ls.length + 2 * M := by rw [List.length_append, toll_len]
 have htl := h.ti i hi2 ht
 have hg := lg_tl hl
 obtain ⟨g1, g2, _⟩ := hg i hi2
 have htw : lw (ls ++ tollL M) i = 1280001 := by
  obtain ⟨j, hj, hd⟩ : ∃ j, j < M /\ (i = ls.length + 2 * j ∨ i = ls.length + 2 * j + 1) := ⟨(i - ls.length) / 2, by omega, by omega⟩
  obtain ⟨t1, t2⟩ := tl_up (ls := ls) hj
  rcases hd with rfl | rfl
  ·exact (fld t1).2.2
  ·exact (fld t2).2.2
 rw [htw] at htl
 obtain ⟨c, c1, c2, c3⟩ := gap hM g1 g2 htl
 refine ⟨fun v => decide (c < p v), fun k hk hU => ?_, ?_⟩
 ·have hU : c < p (lb ls k) := of_decide_eq_true hU
  obtain ⟨e1, e2, e3⟩ := app_fld (us := tollL M) hk
  have h1 := h.st k (by omega)
  rw [e1, e2, e3] at h1
  obtain ⟨k1, k2, _⟩ := lg_of hl k hk
  have h2 := c3 _ k1
  have h3 := c3 _ k2
  have h4 := lw_bd' hl hk
  exact decide_eq_true (by omega)
 ·have e : tot (fun v => ind (fun v => decide (c < p v)) v * w v) (M + 1) = tot (fun k => t k * (ind (fun v => decide (c < p v)) (lb (ls ++ tollL M) k) - ind (fun v => decide (c < p v)) (la (ls ++ tollL M) k))) (ls ++ tollL M).length := by
   rw [<- dot_net (fun k hk => ⟨(hg k hk).1, (hg k hk).2.1⟩)]
   exact tot_congr (fun v hv => by rw [h.nt v hv, hd v hv]; simp)
  rw [e]
  have hnn : ∀ k, k < (ls ++ tollL M).length -> 0 <= t k * (ind (fun v => decide (c < p v)) (lb (ls ++ tollL M) k) - ind (fun v => decide (c < p v)) (la (ls ++ tollL M) k)) := fun k hk => by
   have k0 := h.nn k hk
   by_cases q : t k = 0
   ·rw [q]; simp
   ·have k1 := h.ti k hk (by omega)
    obtain ⟨k2, k3, _, k4, k5, _⟩ := hg k hk
    have h2 := c3 _ k2
    have h3 := c3 _ k3
    unfold ind
    refine Int.mul_nonneg k0 ?_
    by_cases q1 : c < p (la (ls ++ tollL M) k)
    ·have : c < p (lb (ls ++ tollL M) k) := by omega
     rw [if_pos (decide_eq_true q1), if_pos (decide_eq_true this)]; decide
    ·have e1 : (if decide (c < p (la (ls ++ tollL M) k)) = true then (1 : Int) else 0) = 0 := if_neg (by simpa using q1)
     rw [e1]
     split <;> decide
  have hmem := tot_mem hnn i hi2
  have hpos : t i * (ind (fun v => decide (c < p v)) (lb (ls ++ tollL M) i) - ind (fun v => decide (c < p v)) (la (ls ++ tollL M) i)) = t i := by
   unfold ind
   rw [if_pos (decide_eq_true (by omega)), if_neg (by simp; omega)]
   omega
  have hmem' : t i * (ind (fun v => decide (c < p v)) (lb (ls ++ tollL M) i) - ind (fun v => decide (c < p v)) (la (ls ++ tollL M) i)) <= _ := hmem
  rw [hpos] at hmem'
  exact Int.lt_of_lt_of_le ht hmem'
section
variable {X : FuncId -> List Value -> St -> (Value -> St -> Bool) -> Bool}
end
end Ev
end Go.Proofs.Ytoeklhdklcpllaa
namespace Go.Proofs.Ytoeklhdklcpllaa
open Go Go.RowKit
namespace Ev
structure Cm where
 lim : Nat
 bk : Bool
 fr : Int
 to : Nat
 ms : Int
structure Tp where
 pr : Nat -> Int
 cm : Nat -> Cm
 lf : Nat -> Bool
structure Rs (ts : List (List Int)) (t : Nat -> Int) (u : Nat) (c : Cm) : Prop where
 lt : c.lim < ts.length
 fr : c.fr = (u : Int)
 wh : (c.bk = false /\ la ts c.lim = u /\ c.to = lb ts c.lim /\ c.ms = lw ts c.lim) ∨ (c.bk = true /\ lb ts c.lim = u /\ c.to = la ts c.lim /\ c.ms = -(lw ts c.lim) /\ 0 < t c.lim)
def upT (p : Nat -> Int) (g : Tp) (v i : Nat) (bk : Bool) (to : Nat) (ms : Int) : Tp :=
 if g.pr v + ms + p v - p to < g.pr to then ⟨updX g.pr to (g.pr v + ms + p v - p to), updX g.cm to ⟨i, bk, (v : Int), to, ms⟩, g.lf⟩ else g
def rxT (ts : List (List Int)) (t p : Nat -> Int) (g : Tp) (v i : Nat) : Tp :=
 if lb ts i = v then (if t i = 0 then g else upT p g v i true (la ts i) (-(lw ts i))) else upT p g v i false (lb ts i) (lw ts i)
def rwT (ts : List (List Int)) (t p : Nat -> Int) (g : Tp) (v : Nat) : Nat -> Tp
 | 0 => g
 | q + 1 => rxT ts t p (rwT ts t p g v q) v ((nl ts ts.length v).getD q 0).toNat
def cnB (f : Nat -> Bool) : Nat -> Nat
 | 0 => 0
 | k + 1 => cnB f k + (if f k = true then 1 else 0)
theorem cnB_le {f : Nat -> Bool} : ∀ {N : Nat}, cnB f N <= N
 | 0 => Nat.le_refl _
 | N + 1 => by
  have := cnB_le (f := f) (N := N)
  show cnB f N + (if f N = true then 1 else 0) <= _
  split <;> omega
theorem cnB_far {f : Nat -> Bool} {b : Nat} : ∀ {N : Nat}, N <= b -> cnB (updX f b true) N = cnB f N
 | 0, _ => rfl
 | N + 1, h => by
  show cnB (updX f b true) N + (if updX f b true N = true then 1 else 0) = cnB f N + (if f N = true then 1 else 0)
  rw [cnB_far (N := N) (by omega), updX_ne (show N ≠ b by omega)]
theorem cnB_upd {f : Nat -> Bool} {b : Nat} (hb : f b = false) : ∀ {N : Nat}, b < N -> cnB (updX f b true) N = cnB f N + 1
 | N + 1, h => by
  show cnB (updX f b true) N + (if updX f b true N = true then 1 else 0) = cnB f N + (if f N = true then 1 else 0) + 1
  by_cases q : b = N
  ·subst q
   rw [cnB_far (Nat.le_refl _), updX_eq, if_pos rfl, hb, if_neg (by decide)]
  ·rw [cnB_upd hb (N := N) (by omega), updX_ne (show N ≠ b by omega)]; omega
theorem cnB_lt {f : Nat -> Bool} {b N : Nat} (hb : f b = false) (h : b < N) : cnB f N < N := by
 have h1 := cnB_upd hb h
 have h2 := cnB_le (f := updX f b true) (N := N)
 omega
structure Dj (ts : List (List Int)) (N : Nat) (t p : Nat -> Int) (S : Nat -> Prop) (U : Int) (g : Tp) (rk : Nat -> Nat) : Prop where
 src : ∀ v, v < N -> S v -> g.pr v = 0 /\ (g.cm v).fr = -1
 pos : ∀ v, v < N -> 0 <= g.pr v
 bd : ∀ v, v < N -> g.pr v = 1000000000 ∨ g.pr v + p v <= U + 1280001 * (cnB g.lf N : Int)
 cam : ∀ v, v < N -> ¬ g.pr v = 1000000000 -> S v ∨ ∃ u, u < N /\ g.lf u = true /\ Rs ts t u (g.cm v) /\ (g.cm v).to = v /\ g.pr v = g.pr u + (g.cm v).ms + p u - p v /\ (g.lf v = true -> rk u < rk v)
 rkc : ∀ v, v < N -> g.lf v = true -> rk v < cnB g.lf N
 fin : ∀ v, v < N -> g.lf v = true -> ¬ g.pr v = 1000000000
 ord : ∀ u v, u < N -> v < N -> g.lf u = true -> g.lf v = false -> g.pr u <= g.pr v
 rel : ∀ u, u < N -> g.lf u = true -> ∀ i, i < ts.length -> (la ts i = u -> g.pr (lb ts i) <= g.pr u + lw ts i + p u - p (lb ts i)) /\ (lb ts i = u -> 0 < t i -> g.pr (la ts i) <= g.pr u + -(lw ts i) + p u - p (la ts i))
structure Kpt (ts : List (List Int)) (N : Nat) (t p : Nat -> Int) : Prop where
 lg : ∀ i, i < ts.length -> la ts i < N /\ lb ts i < N /\ la ts i ≠ lb ts i /\ -20000 <= lw ts i /\ lw ts i <= 1280001
 nn : ∀ i, i < ts.length -> 0 <= t i
 st : ∀ i, i < ts.length -> p (lb ts i) <= p (la ts i) + lw ts i
 ti : ∀ i, i < ts.length -> 0 < t i -> p (lb ts i) = p (la ts i) + lw ts i
theorem Rs.to_lt {ts : List (List Int)} {N : Nat} {t p : Nat -> Int} {u : Nat} {c : Cm} (h : Rs ts t u c) (k : Kpt ts N t p) : c.to < N /\ c.to ≠ u /\ 0 <= c.ms + p u - p c.to /\ c.ms <= 1280001 /\ -1280001 <= c.ms := by
 obtain ⟨h1, h2, h3, h4, h5⟩ := k.lg c.lim h.lt
 have h6 := k.st c.lim h.lt
 have h7 := k.ti c.lim h.lt
 rcases h.wh with ⟨_, w1, w2, w3⟩ | ⟨_, w1, w2, w3, w4⟩
 ·rw [w2, w3, <- w1]; exact ⟨h2, fun e => h3 e.symm, by omega, by omega, by omega⟩
 ·have := h7 w4
  rw [w2, w3, <- w1]; exact ⟨h1, h3, by omega, by omega, by omega⟩
structure Dq (ts : List (List Int)) (N : Nat) (t p : Nat -> Int) (S : Nat -> Prop) (U : Int) (g0 : Tp) (v0 : Nat) (rk : Nat -> Nat) (h : Tp) : Prop where
 lf : h.lf = updX g0.lf v0 true
 le : ∀ v, v < N -> h.pr v <= g0.pr v
 vis : ∀ v, v < N -> h.lf v = true -> h.pr v = g0.pr v
 src : ∀ v, v < N -> S v -> h.pr v = 0 /\ (h.cm v).fr = -1
 ord : ∀ v, v < N -> h.lf v = false -> g0.pr v0 <= h.pr v
 bd : ∀ v, v < N -> h.pr v = 1000000000 ∨ h.pr v + p v <= U + 1280001 * ((cnB g0.lf N : Int) + 1)
 cam : ∀ v, v < N -> ¬ h.pr v = 1000000000 -> S v ∨ ∃ u, u < N /\ h.lf u = true /\ Rs ts t u (h.cm v) /\ (h.cm v).to = v /\ h.pr v = h.pr u + (h.cm v).ms + p u - p v /\ (h.lf v = true -> updX rk v0 (cnB g0.lf N) u < updX rk v0 (cnB g0.lf N) v)
theorem Dq.up {ts : List (List Int)} {N : Nat} {t p : Nat -> Int} {S : Nat -> Prop} {U : Int} {g0 : Tp} {v0 : Nat} {rk : Nat -> Nat} {h : Tp} {i to : Nat} {bk : Bool} {ms : Int} (k : Kpt ts N t p) (hj : Dj ts N t p S U g0 rk) (hv : v0 < N) (hv2 : g0.lf v0 = false) (hvf : ¬ g0.pr v0 = 1000000000) (hq : Dq ts N t p S U g0 v0 rk h) (hr : Rs ts t v0 ⟨i, bk, (v0 : Int), to, ms⟩) :
 Dq ts N t p S U g0 v0 rk (upT p h v0 i bk to ms) /\ (upT p h v0 i bk to ms).pr to <= g0.pr v0 + ms + p v0 - p to /\ ∀ v, v < N -> (upT p h v0 i bk to ms).pr v <= h.pr v := by
 obtain ⟨r1, r2, r3, r4, r5⟩ := hr.to_lt k
 have r1 : to < N := r1
 have r2 : to ≠ v0 := r2
 have r3 : 0 <= ms + p v0 - p to := r3
 have r4 : ms <= 1280001 := r4
 have hl0 : h.lf v0 = true := by rw [hq.lf, updX_eq]
 have hp0 := hq.vis v0 hv hl0
 have hpos := hj.pos v0 hv
 unfold upT
 by_cases c : h.pr v0 + ms + p v0 - p to < h.pr to
 ·rw [if_pos c]
  have hnv : h.lf to = false := by
   cases e : h.lf to with
   | false => rfl
   | true =>
    have h1 := hq.vis to r1 e
    rw [hq.lf, updX_ne r2] at e
    have h2 := hj.ord to v0 r1 hv e hv2
    omega
  have hnS : ¬ S to := fun s => by
   have := (hq.src to r1 s).1
   omega
  refine ⟨⟨hq.lf, fun v hv' => ?_, fun v hv' hl => ?_, fun v hv' hs => ?_, fun v hv' hl => ?_, fun v hv' => ?_, fun v hv' hf => ?_⟩, ?_, fun v hv' => ?_⟩
  ·show updX h.pr to _ v <= _
   by_cases e : v = to
   ·subst e; rw [updX_eq]; have := hq.le v hv'; omega
   ·rw [updX_ne e]; exact hq.le v hv'
  ·have hl : h.lf v = true := hl
   show updX h.pr to _ v = _
   rw [updX_ne (fun e => by rw [e, hnv] at hl; cases hl)]
   exact hq.vis v hv' hl
  ·have ne : v ≠ to := fun e => hnS (e ▸ hs)
   show updX h.pr to _ v = 0 /\ (updX h.cm to _ v).fr = -1
   rw [updX_ne ne, updX_ne ne]; exact hq.src v hv' hs
  ·show g0.pr v0 <= updX h.pr to _ v
   by_cases e : v = to
   ·subst e; rw [updX_eq]; omega
   ·rw [updX_ne e]; exact hq.ord v hv' hl
  ·show updX h.pr to _ v = _ ∨ updX h.pr to _ v + p v <= _
   by_cases e : v = to
   ·subst e
    rw [updX_eq]
    have := (hj.bd v0 hv).resolve_left hvf
    exact .inr (by omega)
   ·rw [updX_ne e]; exact hq.bd v hv'
  ·show S v ∨ ∃ u, u < N /\ h.lf u = true /\ Rs ts t u (updX h.cm to _ v) /\ (updX h.cm to _ v).to = v /\ updX h.pr to _ v = updX h.pr to _ u + (updX h.cm to _ v).ms + p u - p v /\ (h.lf v = true -> updX rk v0 (cnB g0.lf N) u < updX rk v0 (cnB g0.lf N) v)
   by_cases e : v = to
   ·subst e
    rw [updX_eq, updX_eq]
    refine .inr ⟨v0, hv, hl0, hr, rfl, ?_, fun q => by rw [hnv] at q; cases q⟩
    rw [updX_ne (fun e => r2 e.symm)]
   ·have hf' : ¬ updX h.pr to (h.pr v0 + ms + p v0 - p to) v = 1000000000 := hf
    rw [updX_ne e] at hf'
    rw [updX_ne e, updX_ne e]
    rcases hq.cam v hv' hf' with q | ⟨u, u1, u2, u3, u4, u5, u6⟩
    ·exact .inl q
    ·refine .inr ⟨u, u1, u2, u3, u4, ?_, u6⟩
     rw [updX_ne (fun e => by rw [e, hnv] at u2; cases u2)]
     exact u5
  ·show updX h.pr to _ to <= _
   rw [updX_eq, hp0]; exact Int.le_refl _
  ·show updX h.pr to _ v <= _
   by_cases e : v = to
   ·subst e; rw [updX_eq]; omega
   ·rw [updX_ne e]; exact Int.le_refl _
 ·rw [if_neg c]
  exact ⟨hq, by omega, fun v _ => Int.le_refl _⟩
def Rq (ts : List (List Int)) (t p : Nat -> Int) (d : Int) (v0 q : Nat) (x : Nat -> Int) : Prop := ∀ j, j < q -> ∀ i : Nat, (nl ts ts.length v0).getD j 0 = (i : Int) -> (la ts i = v0 -> x (lb ts i) <= d + lw ts i + p v0 - p (lb ts i)) /\ (lb ts i = v0 -> 0 < t i -> x (la ts i) <= d + -(lw ts i) + p v0 - p (la ts i))
theorem Dq.step {ts : List (List Int)} {N : Nat} {t p : Nat -> Int} {S : Nat -> Prop} {U : Int} {g0 : Tp} {v0 : Nat} {rk : Nat -> Nat} {h : Tp} {q i : Nat} (k : Kpt ts N t p) (hj : Dj ts N t p S U g0 rk) (hv : v0 < N) (hv2 : g0.lf v0 = false) (hvf : ¬ g0.pr v0 = 1000000000) (hq : Dq ts N t p S U g0 v0 rk h) (hR : Rq ts t p (g0.pr v0) v0 q h.pr)
 (hi : (nl ts ts.length v0).getD q 0 = (i : Int)) (hil : i < ts.length) (hn : la ts i = v0 ∨ lb ts i = v0) : Dq ts N t p S U g0 v0 rk (rxT ts t p h v0 i) /\ Rq ts t p (g0.pr v0) v0 (q + 1) (rxT ts t p h v0 i).pr := by
 obtain ⟨k1, k2, k3, _, _⟩ := k.lg i hil
 have more : ∀ h' : Tp, (∀ v, v < N -> h'.pr v <= h.pr v) -> ((la ts i = v0 -> h'.pr (lb ts i) <= g0.pr v0 + lw ts i + p v0 - p (lb ts i)) /\ (lb ts i = v0 -> 0 < t i -> h'.pr (la ts i) <= g0.pr v0 + -(lw ts i) + p v0 - p (la ts i))) -> Rq ts t p (g0.pr v0) v0 (q + 1) h'.pr := fun h' hle hh j hj' i' hi' => by
  by_cases e : j = q
  ·subst e
   have : i' = i := by rw [hi] at hi'; omega
   subst this
   exact hh
  ·have h3 := hR j (by omega) i' hi'
   obtain ⟨i2, e2, l2, _⟩ : ∃ i2 : Nat, (nl ts ts.length v0).getD j 0 = (i2 : Int) /\ i2 < ts.length /\ True := by
    by_cases hjl : j < (nl ts ts.length v0).length
    ·obtain ⟨i2, a, b, _⟩ := nl_mem (ls := ts) (v := v0) (k := ts.length) hjl
     exact ⟨i2, a, b, trivial⟩
    ·rw [List.getD_eq_getElem?_getD, List.getElem?_eq_none (by omega)] at hi' ⊢
     exact ⟨0, rfl, by omega, trivial⟩
   have : i' = i2 := by rw [e2] at hi'; omega
   subst this
   obtain ⟨a1, a2, _⟩ := k.lg i' l2
   refine ⟨fun e3 => ?_, fun e3 e4 => ?_⟩
   ·have := h3.1 e3; have := hle _ a2; omega
   ·have := h3.2 e3 e4; have := hle _ a1; omega
 unfold rxT
 by_cases c : lb ts i = v0
 ·rw [if_pos c]
  by_cases c2 : t i = 0
  ·rw [if_pos c2]
   exact ⟨hq, more h (fun v _ => Int.le_refl _) ⟨fun e => absurd (e.trans c.symm) k3, fun _ e => by omega⟩⟩
  ·rw [if_neg c2]
   have c3 := k.nn i hil
   obtain ⟨u1, u2, u3⟩ := Dq.up (to := la ts i) (ms := -(lw ts i)) (bk := true) (i := i) k hj hv hv2 hvf hq ⟨hil, rfl, .inr ⟨rfl, c, rfl, rfl, (show 0 < t i by omega)⟩⟩
   exact ⟨u1, more _ u3 ⟨fun e => absurd (e.trans c.symm) k3, fun _ _ => u2⟩⟩
 ·rw [if_neg c]
  have ha : la ts i = v0 := hn.resolve_right c
  obtain ⟨u1, u2, u3⟩ := Dq.up (to := lb ts i) (ms := lw ts i) (bk := false) (i := i) k hj hv hv2 hvf hq ⟨hil, rfl, .inl ⟨rfl, ha, rfl, rfl⟩⟩
  exact ⟨u1, more _ u3 ⟨fun _ => u2, fun e => absurd e c⟩⟩
theorem nam_ab {ts : List (List Int)} {M i v : Nat} (hg : Lg M ts) (hi : i < ts.length) : nam (ts.getD i []) v ↔ la ts i = v ∨ lb ts i = v := by
 obtain ⟨_, _, _, _, _, y3, e⟩ := hg i hi
 have e2 : ts.getD i [] = [((la ts i : Nat) : Int), ((lb ts i : Nat) : Int), lw ts i, y3] := by rw [List.getD_eq_getElem?_getD, e]; rfl
 unfold nam
 rw [e2]
 show ((la ts i : Nat) : Int) = (v : Int) ∨ ((lb ts i : Nat) : Int) = (v : Int) ↔ _
 omega
theorem Dj.visit {ts : List (List Int)} {M : Nat} {t p : Nat -> Int} {S : Nat -> Prop} {U : Int} {g0 : Tp} {v0 : Nat} {rk : Nat -> Nat} (hg : Lg M ts) (k : Kpt ts (M + 1) t p) (hj : Dj ts (M + 1) t p S U g0 rk) (hv : v0 < M + 1) (hv2 : g0.lf v0 = false) (hvf : ¬ g0.pr v0 = 1000000000) (hmin : ∀ v, v < M + 1 -> g0.lf v = false -> g0.pr v0 <= g0.pr v) :
 (∀ q, q <= (nl ts ts.length v0).length -> Dq ts (M + 1) t p S U g0 v0 rk (rwT ts t p ⟨g0.pr, g0.cm, updX g0.lf v0 true⟩ v0 q) /\ Rq ts t p (g0.pr v0) v0 q (rwT ts t p ⟨g0.pr, g0.cm, updX g0.lf v0 true⟩ v0 q).pr) /\
 Dj ts (M + 1) t p S U (rwT ts t p ⟨g0.pr, g0.cm, updX g0.lf v0 true⟩ v0 (nl ts ts.length v0).length) (updX rk v0 (cnB g0.lf (M + 1))) := by
 have hS : S v0 -> g0.pr v0 = 0 := fun s => (hj.src v0 hv s).1
 have h0 : Dq ts (M + 1) t p S U g0 v0 rk ⟨g0.pr, g0.cm, updX g0.lf v0 true⟩ := by
  refine ⟨rfl, fun v _ => Int.le_refl _, fun v _ _ => rfl, hj.src, fun v hv' hl => ?_, fun v hv' => ?_, fun v hv' hf => ?_⟩
  ·have hl : updX g0.lf v0 true v = false := hl
   by_cases e : v = v0
   ·rw [e, updX_eq] at hl; cases hl
   ·rw [updX_ne e] at hl; exact hmin v hv' hl
  ·rcases hj.bd v hv' with q | q
   ·exact .inl q
   ·exact .inr (by show g0.pr v + p v <= _; omega)
  ·rcases hj.cam v hv' hf with q | ⟨u, u1, u2, u3, u4, u5, u6⟩
   ·exact .inl q
   ·have hu : u ≠ v0 := fun e => by rw [e, hv2] at u2; cases u2
    refine .inr ⟨u, u1, ?_, u3, u4, u5, fun hl => ?_⟩
    ·show updX g0.lf v0 true u = true
     rw [updX_ne hu]; exact u2
    ·have hl : updX g0.lf v0 true v = true := hl
     rw [updX_ne hu]
     by_cases e : v = v0
     ·rw [e, updX_eq]; exact hj.rkc u u1 u2
     ·rw [updX_ne e] at hl ⊢
      exact u6 hl
 have hall : ∀ q, q <= (nl ts ts.length v0).length -> Dq ts (M + 1) t p S U g0 v0 rk (rwT ts t p ⟨g0.pr, g0.cm, updX g0.lf v0 true⟩ v0 q) /\ Rq ts t p (g0.pr v0) v0 q (rwT ts t p ⟨g0.pr, g0.cm, updX g0.lf v0 true⟩ v0 q).pr := by
  intro q
  induction q with
  | zero => intro _; exact ⟨h0, fun j hj => absurd hj (Nat.not_lt_zero j)⟩
  | succ q ih =>
   intro hq
   obtain ⟨i1, i2⟩ := ih (by omega)
   obtain ⟨i, hi, hil, hn⟩ := nl_mem (ls := ts) (v := v0) (k := ts.length) (q := q) (by omega)
   have := Dq.step k hj hv hv2 hvf i1 i2 hi hil ((nam_ab hg hil).1 hn)
   show Dq ts (M + 1) t p S U g0 v0 rk (rxT ts t p _ v0 ((nl ts ts.length v0).getD q 0).toNat) /\ Rq ts t p (g0.pr v0) v0 (q + 1) (rxT ts t p _ v0 ((nl ts ts.length v0).getD q 0).toNat).pr
   rw [hi, Int.toNat_natCast]
   exact this
 refine ⟨hall, ?_⟩
 obtain ⟨d, r⟩ := hall _ (Nat.le_refl _)
 generalize rwT ts t p ⟨g0.pr, g0.cm, updX g0.lf v0 true⟩ v0 (nl ts ts.length v0).length = h at d r
 have hcn : cnB h.lf (M + 1) = cnB g0.lf (M + 1) + 1 := by rw [d.lf]; exact cnB_upd hv2 hv
 have hvis : ∀ v, v < M + 1 -> h.lf v = true -> v = v0 ∨ g0.lf v = true := fun v _ hl => by
  rw [d.lf] at hl
  by_cases e : v = v0
  ·exact .inl e
  ·rw [updX_ne e] at hl; exact .inr hl
 refine ⟨d.src, fun v hv' => ?_, fun v hv' => ?_, d.cam, fun v hv' hl => ?_, fun v hv' hl => ?_, fun u v hu hv' hl hl2 => ?_, fun u hu hl i hi => ?_⟩
 ·by_cases e : h.lf v = true
  ·rw [d.vis v hv' e]; exact hj.pos v hv'
  ·have := d.ord v hv' (by simpa using e)
   have := hj.pos v0 hv
   omega
 ·rw [hcn]
  rcases d.bd v hv' with q | q
  ·exact .inl q
  ·exact .inr (by omega)
 ·rw [hcn]
  rcases hvis v hv' hl with e | e
  ·rw [e, updX_eq]; omega
  ·by_cases e2 : v = v0
   ·rw [e2, updX_eq]; omega
   ·rw [updX_ne e2]; have := hj.rkc v hv' e; omega
 ·rw [d.vis v hv' hl]
  rcases hvis v hv' hl with e | e
  ·rw [e]; exact hvf
  ·exact hj.fin v hv' e
 ·rw [d.vis u hu hl]
  have h2 := d.ord v hv' hl2
  rcases hvis u hu hl with e | e
  ·rw [e]; exact h2
  ·have := hj.ord u v0 hu hv e hv2
   omega
 ·obtain ⟨a1, a2, _⟩ := k.lg i hi
  rw [d.vis u hu hl]
  rcases hvis u hu hl with e | e
  ·subst e
   refine ⟨fun e3 => ?_, fun e3 e4 => ?_⟩
   ·obtain ⟨j, j1, j2⟩ := nl_has (ls := ts) (v := u) (i := i) ((nam_ab hg hi).2 (.inl e3)) (k := ts.length) hi
    exact (r j j1 i j2).1 e3
   ·obtain ⟨j, j1, j2⟩ := nl_has (ls := ts) (v := u) (i := i) ((nam_ab hg hi).2 (.inr e3)) (k := ts.length) hi
    exact (r j j1 i j2).2 e3 e4
  ·have h3 := hj.rel u hu e i hi
   refine ⟨fun e3 => ?_, fun e3 e4 => ?_⟩
   ·have := h3.1 e3; have := d.le _ a2; omega
   ·have := h3.2 e3 e4; have := d.le _ a1; omega
section
variable {X : FuncId -> List Value -> St -> (Value -> St -> Bool) -> Bool}
end
end Ev
end Go.Proofs.Ytoeklhdklcpllaa
