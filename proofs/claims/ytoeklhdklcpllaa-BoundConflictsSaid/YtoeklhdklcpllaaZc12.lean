import Derived.Test.YtoeklhdklcpllaaZc11
import Derived.Test.YtoeklhdklcpllaaZc09
import Derived.Test.YtoeklhdklcpllaaZc10
set_option linter.unusedVariables false
set_option linter.unusedSimpArgs false
namespace Go.Proofs.Ytoeklhdklcpllaa
open Go Go.RowKit
namespace Ev
theorem tmodP_bd {x m : Int} (h : 0 < m) : -m < x.tmod m /\ x.tmod m < m := by
 have h1 := Int.natAbs_tmod x m;have h2 := Nat.mod_lt x.natAbs (show 0 < m.natAbs by omega);omega
def modP (x m : Int) : Int := if x.tmod m < 0 then x.tmod m + m else x.tmod m
theorem modP_bd {x m : Int} (h : 0 < m) : 0 <= modP x m /\ modP x m < m := by
 have := tmodP_bd (x := x) h;unfold modP;split <;> omega
def chZ (lo hi p : Int) : Int := if lo = -1000000000 /\ hi = 1000000000 then 0 else if hi = 1000000000 then lo else if lo = -1000000000 then hi else lo + modP p (hi - lo + 1)
def loV (D : Nat -> Nat -> Int) (x : List Int) (n : Nat) : Nat -> Int
 | 0 => -1000000000
 | k + 1 => if D n k = 1000000000 then loV D x n k else max (loV D x n k) (x.getD k 0 - D n k)
def hiV (D : Nat -> Nat -> Int) (x : List Int) (n : Nat) : Nat -> Int
 | 0 => 1000000000
 | k + 1 => if D k n = 1000000000 then hiV D x n k else min (hiV D x n k) (x.getD k 0 + D k n)
theorem lo_free {D : Nat -> Nat -> Int} {x : List Int} {n k : Nat} {lo : Int} (h : lo = loV D x n k) (hd : D n k = 1000000000) : lo = loV D x n (k + 1) := by
 show lo = if D n k = 1000000000 then _ else _
 rw [if_pos hd]; exact h
theorem lo_some {D : Nat -> Nat -> Int} {x : List Int} {n k : Nat} {lo : Int} (h : lo = loV D x n k) (hd : ¬ D n k = 1000000000) : max lo (x.getD k 0 - D n k) = loV D x n (k + 1) := by
 show _ = if D n k = 1000000000 then _ else _
 rw [if_neg hd, h]
theorem hi_free {D : Nat -> Nat -> Int} {x : List Int} {n k : Nat} {hi : Int} (h : hi = hiV D x n k) (hd : D k n = 1000000000) : hi = hiV D x n (k + 1) := by
 show hi = if D k n = 1000000000 then _ else _
 rw [if_pos hd]; exact h
theorem hi_some {D : Nat -> Nat -> Int} {x : List Int} {n k : Nat} {hi : Int} (h : hi = hiV D x n k) (hd : ¬ D k n = 1000000000) : min hi (x.getD k 0 + D k n) = hiV D x n (k + 1) := by
 show _ = if D k n = 1000000000 then _ else _
 rw [if_neg hd, h]
def pkV (ps : List Int) (i : Nat) : Int := if ps.length = 0 then 0 else ps.getD (i % ps.length) 0
def ptL (D : Nat -> Nat -> Int) (ps : List Int) : Nat -> List Int
 | 0 => [0]
 | w + 1 => ptL D ps w ++ [chZ (loV D (ptL D ps w) (w + 1) (w + 1)) (hiV D (ptL D ps w) (w + 1) (w + 1)) (pkV ps w)]
theorem ptL_len {D : Nat -> Nat -> Int} {ps : List Int} : ∀ {w : Nat}, (ptL D ps w).length = w + 1
 | 0 => rfl
 | w + 1 => by
  show (ptL D ps w ++ _).length = _;rw [List.length_append, ptL_len]; rfl
theorem DT.lo {ls : List (List Int)} {M : Nat} {D : Nat -> Nat -> Int} {y : Nat -> Int} (h : DT ls (M + 1) D) (hy : ∀ i, i < ls.length -> y (lb ls i) <= y (la ls i) + lw ls i) (hb : ∀ a, a < M + 1 -> -1300000 <= y a /\ y a <= 0) {f a : Nat} (hf : f < M + 1) (ha : a < M + 1) : -1300000 <= D f a := by
 by_cases q : D f a = 1000000000
 ·rw [q]; decide
 ·have h1 := ((h f hf).way a ha q).pot hy
  have h2 := hb a ha;have h3 := hb f hf;omega
structure Sm (D : Nat -> Nat -> Int) (N : Nat) : Prop where
 lo : ∀ a b, a < N -> b < N -> -1300000 <= D a b
 hi : ∀ a b, a < N -> b < N -> D a b = 1000000000 ∨ D a b <= 1280000
theorem DT.sm {ls : List (List Int)} {M : Nat} {D : Nat -> Nat -> Int} {y : Nat -> Int} (h : DT ls (M + 1) D) (hy : ∀ i, i < ls.length -> y (lb ls i) <= y (la ls i) + lw ls i) (hb : ∀ a, a < M + 1 -> -1300000 <= y a /\ y a <= 0) : Sm D (M + 1) := ⟨fun a b ha hb' => h.lo hy hb ha hb', fun a b ha hb' => (h a ha).hi b hb'⟩
def Nb (x : List Int) (c : Int) : Prop := ∀ i, i < x.length -> -c <= x.getD i 0 /\ x.getD i 0 <= c
theorem lo_bd {D : Nat -> Nat -> Int} {N n : Nat} {x : List Int} {c : Int} (hD : Sm D N) (hn : n < N) (hx : Nb x c) (hc : 0 <= c /\ c <= 100000000) : ∀ {k : Nat}, k <= x.length -> k <= n -> loV D x n k = -1000000000 ∨ (-c - 1280000 <= loV D x n k /\ loV D x n k <= c + 1300000)
 | 0, _, _ => .inl rfl
 | k + 1, hk, hkn => by
  have ih := lo_bd hD hn hx hc (k := k) (by omega) (by omega);have h1 := hD.lo n k hn (by omega);have h2 := hD.hi n k hn (by omega);have h3 := hx k (by omega);show (if D n k = 1000000000 then loV D x n k else max (loV D x n k) (x.getD k 0 - D n k)) = -1000000000 ∨ (-c - 1280000 <= (if D n k = 1000000000 then loV D x n k else max (loV D x n k) (x.getD k 0 - D n k)) /\ (if D n k = 1000000000 then loV D x n k else max (loV D x n k) (x.getD k 0 - D n k)) <= c + 1300000);split
  ·exact ih
  ·exact .inr (by omega)
theorem hi_bd {D : Nat -> Nat -> Int} {N n : Nat} {x : List Int} {c : Int} (hD : Sm D N) (hn : n < N) (hx : Nb x c) (hc : 0 <= c /\ c <= 100000000) : ∀ {k : Nat}, k <= x.length -> k <= n -> hiV D x n k = 1000000000 ∨ (-c - 1300000 <= hiV D x n k /\ hiV D x n k <= c + 1280000)
 | 0, _, _ => .inl rfl
 | k + 1, hk, hkn => by
  have ih := hi_bd hD hn hx hc (k := k) (by omega) (by omega);have h1 := hD.lo k n (by omega) hn;have h2 := hD.hi k n (by omega) hn;have h3 := hx k (by omega);show (if D k n = 1000000000 then hiV D x n k else min (hiV D x n k) (x.getD k 0 + D k n)) = 1000000000 ∨ (-c - 1300000 <= (if D k n = 1000000000 then hiV D x n k else min (hiV D x n k) (x.getD k 0 + D k n)) /\ (if D k n = 1000000000 then hiV D x n k else min (hiV D x n k) (x.getD k 0 + D k n)) <= c + 1280000);split
  ·exact ih
  ·exact .inr (by omega)
theorem lo_Lo {D : Nat -> Nat -> Int} {N : Nat} {x : List Int} {c : Int} (hD : Sm D N) (hn : x.length < N) (hx : Nb x c) (hc : 0 <= c /\ c <= 100000000) : ∀ {k : Nat}, k <= x.length -> Lo D x k (loV D x x.length k)
 | 0, _ => .zero
 | k + 1, hk => by
  have ih := lo_Lo hD hn hx hc (k := k) (by omega);have h2 := hD.hi x.length k hn (by omega);have h3 := hx k (by omega);show Lo D x (k + 1) (if D x.length k = 1000000000 then loV D x x.length k else max (loV D x x.length k) (x.getD k 0 - D x.length k));split
  ·exact ih.skip (by assumption)
  ·exact ih.put (by assumption) (by omega)
theorem hi_Hi {D : Nat -> Nat -> Int} {N : Nat} {x : List Int} {c : Int} (hD : Sm D N) (hn : x.length < N) (hx : Nb x c) (hc : 0 <= c /\ c <= 100000000) : ∀ {k : Nat}, k <= x.length -> Hi D x k (hiV D x x.length k)
 | 0, _ => .zero
 | k + 1, hk => by
  have ih := hi_Hi hD hn hx hc (k := k) (by omega);have h2 := hD.hi k x.length (by omega) hn;have h3 := hx k (by omega);show Hi D x (k + 1) (if D k x.length = 1000000000 then hiV D x x.length k else min (hiV D x x.length k) (x.getD k 0 + D k x.length));split
  ·exact ih.skip (by assumption)
  ·exact ih.put (by assumption) (by omega)
theorem ch_in {lo hi p : Int} (h : ¬ lo = -1000000000 -> ¬ hi = 1000000000 -> lo <= hi) : (lo = -1000000000 ∨ lo <= chZ lo hi p) /\ (hi = 1000000000 ∨ chZ lo hi p <= hi) /\ (chZ lo hi p = 0 ∨ (¬ lo = -1000000000 /\ chZ lo hi p = lo) ∨ (¬ hi = 1000000000 /\ chZ lo hi p = hi) ∨ (¬ lo = -1000000000 /\ ¬ hi = 1000000000 /\ lo <= chZ lo hi p /\ chZ lo hi p <= hi)) := by
 unfold chZ;split
 ·rename_i h1; exact ⟨.inl h1.1, .inl h1.2, .inl rfl⟩
 ·split
  ·rename_i h1 h2
   exact ⟨.inr (Int.le_refl _), .inl h2, .inr (.inl ⟨by omega, rfl⟩)⟩
  ·split
   ·rename_i h1 h2 h3
    exact ⟨.inl h3, .inr (Int.le_refl _), .inr (.inr (.inl ⟨by omega, rfl⟩))⟩
   ·rename_i h1 h2 h3
    have h4 := h h3 h2;have h5 := modP_bd (x := p) (m := hi - lo + 1) (by omega);exact ⟨.inr (by omega), .inr (by omega), .inr (.inr (.inr ⟨h3, h2, by omega, by omega⟩))⟩
theorem ptL_ok {ls : List (List Int)} {M : Nat} {D : Nat -> Nat -> Int} {ps : List Int} (hD : DT ls (M + 1) D) (hS : Sm D (M + 1)) (hM : M <= 64) : ∀ {w : Nat}, w <= M -> Pk D (ptL D ps w) /\ Nb (ptL D ps w) (1300000 * (w : Int)) /\ (ptL D ps w).getD 0 0 = 0
 | 0, _ => by
  refine ⟨fun i j hi hj hf => ?_, fun i hi => ?_, rfl⟩
  ·have hi' : i < 1 := hi
   have hj' : j < 1 := hj;obtain rfl : i = 0 := by omega
   obtain rfl : j = 0 := by omega
   have := (hD 0 (by omega)).own;show (0 : Int) - 0 <= _;omega
  ·have hi' : i < 1 := hi
   obtain rfl : i = 0 := by omega
   show -(1300000 * ((0 : Nat) : Int)) <= (0 : Int) /\ (0 : Int) <= 1300000 * ((0 : Nat) : Int);omega
 | w + 1, hw => by
  obtain ⟨h1, h2, h3⟩ := ptL_ok hD hS hM (ps := ps) (w := w) (by omega);have hl : (ptL D ps w).length = w + 1 := ptL_len;have hlo := lo_Lo hS (show (ptL D ps w).length < M + 1 by omega) h2 (by omega) (Nat.le_refl _);have hhi := hi_Hi hS (show (ptL D ps w).length < M + 1 by omega) h2 (by omega) (Nat.le_refl _);have blo := lo_bd hS (n := w + 1) (by omega) h2 (by omega) (k := w + 1) (by omega) (Nat.le_refl _);have bhi := hi_bd hS (n := w + 1) (by omega) h2 (by omega) (k := w + 1) (by omega) (Nat.le_refl _);have hroom := lo_hi hD (show (ptL D ps w).length < M + 1 by omega) h1 hlo hhi;rw [hl] at hlo hhi hroom;have hc := ch_in (p := pkV ps w) hroom;refine ⟨Pk.add hD (by omega) h1 (by rw [hl]; exact hlo) (by rw [hl]; exact hhi) ⟨hc.1, hc.2.1⟩ (fun i hi hf => ?_) (fun i hi hf => ?_), fun i hi => ?_, ?_⟩
  ·have a1 := h2 i hi
   have a2 := hS.hi (ptL D ps w).length i (by omega) (by omega);omega
  ·have a1 := h2 i hi
   have a2 := hS.hi i (ptL D ps w).length (by omega) (by omega);omega
  ·show -(1300000 * ((w + 1 : Nat) : Int)) <= (ptL D ps w ++ [_]).getD i 0 /\ (ptL D ps w ++ [_]).getD i 0 <= 1300000 * ((w + 1 : Nat) : Int)
   have hi' : i < w + 2 := by rw [ptL_len] at hi; exact hi
   rw [List.getD_eq_getElem?_getD];by_cases q : i < w + 1
   ·rw [List.getElem?_append_left (by omega), <- List.getD_eq_getElem?_getD]
    have := h2 i (by omega);omega
   ·rw [List.getElem?_append_right (by omega), show i - (ptL D ps w).length = 0 by omega]
    show -(1300000 * ((w + 1 : Nat) : Int)) <= chZ _ _ _ /\ chZ _ _ _ <= _;have := hc.2.2;omega
  ·show (ptL D ps w ++ [_]).getD 0 0 = 0
   rw [List.getD_eq_getElem?_getD, List.getElem?_append_left (by omega), <- List.getD_eq_getElem?_getD];exact h3
section
variable {X : FuncId -> List Value -> St -> (Value -> St -> Bool) -> Bool}
theorem modulo_s (n : Nat) (x m : Int) (s : St) (hs : Wf s) (hm : 0 < m /\ m <= 4000000000) : Spec Try.prog (tabK tabw) X (n + 60) 64 [.int .i64 x, .int .i64 m] s (fun v A => v = .int .i64 (modP x m) /\ A = []) := by
 refine enter bw64_at rfl hs ?_;unfold bw64;have hq := tmodP_bd (x := x) hm.1;refine rS (kM J J (Q0 (rS (kM J J (kM J J (kO J (a_rem J J (by omega) (kM J J (Q0 (rQ (rS (kM J J (kO J (V5 J J (fun h1 => ?_) (fun h1 => ?_)))))))))))))))
 ·refine Q0 (Y0 J (rI (kM J J (kM J J (kO J (V3 J J (by omega) (kM J J (Q0 (W0 (rS (kM J J (kM J J (Q0 (Y3 (end1 J ⟨congrArg (Value.int .i64) ?_, rfl⟩)))))))))))))))
  unfold modP
  first | (rw [if_pos (by omega)]; done) | (rw [if_neg (by omega)]; done)
 ·refine Q0 (Z0 J (Q1 (W0 (rS (kM J J (kM J J (Q0 (Y3 (end1 J ⟨congrArg (Value.int .i64) ?_, rfl⟩)))))))))
  unfold modP
  first | (rw [if_pos (by omega)]; done) | (rw [if_neg (by omega)]; done)
theorem choose_s (n : Nat) (lo hi p : Int) (s : St) (hs : Wf s) (hlo : -1000000000 <= lo /\ lo <= 1000000000) (hhi : -1000000000 <= hi /\ hi <= 1000000000) (hr : ¬ lo = -1000000000 -> ¬ hi = 1000000000 -> lo <= hi) : Spec Try.prog (tabK tabw) X (n + 120) 41 [.int .i64 lo, .int .i64 hi, .int .i64 p] s (fun v A => v = .int .i64 (chZ lo hi p) /\ A = []) := by
 refine enter bw41_at rfl hs ?_;unfold bw41;refine rS (kM J J (Q0 (rQ (Y1 (rS (kM J J (kO J (a_eql J J (fun h1 => ?_) (fun h1 => ?_)))))))))
 ·refine kM J J (kG J J (W3 J (kG J J (a_eql J J (fun h2 => ?_) (fun h2 => ?_)))))
  ·refine kO J (V2 J J J (kM J J (Q0 (Y0 J (rS (kM J J (Q0 (Y3 (W7 (U3 (end1 J ⟨congrArg (Value.int .i64) ?_, rfl⟩)))))))))))
   unfold chZ
   first | (rw [if_pos (by omega)]; done) | (rw [if_neg (by omega), if_pos (by omega)]; done) | (rw [if_neg (by omega), if_neg (by omega), if_pos (by omega)]; done) | (rw [if_neg (by omega), if_neg (by omega), if_neg (by omega)]; done)
  ·refine kO J (V2 J J J (kM J J (Q0 (Z0 J (rS (kM J J (kO J (a_eql J J (fun h3 => ?_) (fun h3 => ?_)))))))))
   ·refine kM J J (Q0 (Y0 J (rS (kM J J (kM J J (Q0 (Y3 (W7 (U3 (end1 J ⟨congrArg (Value.int .i64) ?_, rfl⟩))))))))))
    unfold chZ
    first | (rw [if_pos (by omega)]; done) | (rw [if_neg (by omega), if_pos (by omega)]; done) | (rw [if_neg (by omega), if_neg (by omega), if_pos (by omega)]; done) | (rw [if_neg (by omega), if_neg (by omega), if_neg (by omega)]; done)
   ·refine kM J J (Q0 (Z0 J (rS (kM J J (kO J (a_eql J J (fun h4 => ?_) (fun h4 => ?_)))))))
    ·refine kM J J (Q0 (Y0 J (rS (kM J J (kM J J (Q0 (Y3 (W7 (U3 (end1 J ⟨congrArg (Value.int .i64) ?_, rfl⟩))))))))))
     unfold chZ
     first | (rw [if_pos (by omega)]; done) | (rw [if_neg (by omega), if_pos (by omega)]; done) | (rw [if_neg (by omega), if_neg (by omega), if_pos (by omega)]; done) | (rw [if_neg (by omega), if_neg (by omega), if_neg (by omega)]; done)
    ·refine kM J J (Q0 (Z0 J (Q1 (U1 (W0 (rS (kM J J (kM J J (kM J J (kM J J (kO J (a_sub J J (by omega) (kO J (V3 J J (by omega) ?_))))))))))))))
     have hr9 := hr (by omega) (by omega);refine kO J (a_callV J J (fun s1 h1 => modulo_s _ _ _ s1 h1.wf (by omega)) ?_);have hm9 := modP_bd (x := p) (m := hi - lo + 1) (by omega);refine kO J (V3 J J (by omega) (kM J J (Q0 (Y3 (end1 J ⟨congrArg (Value.int .i64) ?_, rfl⟩)))));unfold chZ
     first | (rw [if_pos (by omega)]; done) | (rw [if_neg (by omega), if_pos (by omega)]; done) | (rw [if_neg (by omega), if_neg (by omega), if_pos (by omega)]; done) | (rw [if_neg (by omega), if_neg (by omega), if_neg (by omega)]; done)
 ·refine kM J J (U0 J J (U0 J J (kO J (V1 J J J (kM J J (Q0 (Z0 J (rS (kM J J (kO J (a_eql J J (fun h5 => ?_) (fun h5 => ?_))))))))))))
  ·refine kM J J (Q0 (Y0 J (rS (kM J J (kM J J (Q0 (Y3 (W7 (U3 (end1 J ⟨congrArg (Value.int .i64) ?_, rfl⟩))))))))))
   unfold chZ
   first | (rw [if_pos (by omega)]; done) | (rw [if_neg (by omega), if_pos (by omega)]; done) | (rw [if_neg (by omega), if_neg (by omega), if_pos (by omega)]; done) | (rw [if_neg (by omega), if_neg (by omega), if_neg (by omega)]; done)
  ·refine kM J J (Q0 (Z0 J (rS (kM J J (kO J (a_eql J J (fun h6 => ?_) (fun h6 => ?_)))))))
   ·refine kM J J (Q0 (Y0 J (rS (kM J J (kM J J (Q0 (Y3 (W7 (U3 (end1 J ⟨congrArg (Value.int .i64) ?_, rfl⟩))))))))))
    unfold chZ
    first | (rw [if_pos (by omega)]; done) | (rw [if_neg (by omega), if_pos (by omega)]; done) | (rw [if_neg (by omega), if_neg (by omega), if_pos (by omega)]; done) | (rw [if_neg (by omega), if_neg (by omega), if_neg (by omega)]; done)
   ·refine kM J J (Q0 (Z0 J (Q1 (U1 (W0 (rS (kM J J (kM J J (kM J J (kM J J (kO J (a_sub J J (by omega) (kO J (V3 J J (by omega) ?_))))))))))))))
    have hr9 := hr (by omega) (by omega);refine kO J (a_callV J J (fun s1 h1 => modulo_s _ _ _ s1 h1.wf (by omega)) ?_);have hm9 := modP_bd (x := p) (m := hi - lo + 1) (by omega);refine kO J (V3 J J (by omega) (kM J J (Q0 (Y3 (end1 J ⟨congrArg (Value.int .i64) ?_, rfl⟩)))));unfold chZ
    first | (rw [if_pos (by omega)]; done) | (rw [if_neg (by omega), if_pos (by omega)]; done) | (rw [if_neg (by omega), if_neg (by omega), if_pos (by omega)]; done) | (rw [if_neg (by omega), if_neg (by omega), if_neg (by omega)]; done)
theorem Point_s (n : Nat) (m : Int) (al : Option Addr) (cl : Nat) (ls : List (List Int)) (ap : Option Addr) (cpk : Nat) (ps : List Int) (s : St) (hs : Wf s) (hn : 5066549580791808 <= n) (hL : RowsE s 4 al ls) (hP : IntsE s ap ps) : Spec Try.prog (tabK tabw) X (n + 8500) 17 [.agg ⟨[.int .i64 m, .slice al ls.length cl]⟩, .slice ap ps.length cpk] s (fun v A => (¬ sysE m ls = 0 /\ v = .tuple #[.slice none 0 0, .int .i64 (sysE m ls)] /\ A = []) ∨ (sysE m ls = 0 /\ Uns ls (m.toNat + 1) /\ v = .tuple #[.slice none 0 0, .int .i64 23] /\ A = []) ∨ (sysE m ls = 0 /\ ¬ Uns ls (m.toNat + 1) /\ ∃ b op cp D, v = .tuple #[.slice (some ⟨b, 0, none⟩) (m.toNat + 1) cp, .int .i64 0] /\ A = [.row b 3 op (ints (ptL D ps m.toNat))] /\ DT ls (m.toNat + 1) D)) := by
 refine enter bw17_at rfl hs ?_;unfold bw17;have hlen := hL.len;have hlenP := hP.len;refine rS (kO J (a_box J J J (fun b1 => (kM J J (kM J J (Q0 (rS (kO J (Z5 J (by decide) .here rfl (kO J (W5 J J (fun s1 h1 => Close_s _ m al cl ls s1 h1.wf (by omega) (hL.ext hs h1.2.1)) (fun v1 A1 q1 => ?_))))))))))));rcases q1 with ⟨hc, rfl, rfl⟩ | ⟨hc, hc2, rfl, rfl⟩ | ⟨hc, hc2, q1⟩
 ·have hc1 := hc
  refine kM J J (kO J (Q2 J J (kO J (Q2 J J (kM J J (kM J J (Q0 (rQ (rS (kM J J (kO J (Y4 J J (fun h5 => ?_) (fun h5 => ?_)))))))))))))
  ·refine Q0 (Y0 J (rS (kM J J (kM J J (kM J J (Q0 (Y3 (U3 ?_))))))))
   exact end2 J J (.inl ⟨hc1, rfl, rfl⟩)
  ·exfalso; omega
 ·have hsys := hc
  refine kM J J (kO J (Q2 J J (kO J (Q2 J J (kM J J (kM J J (Q0 (rQ (rS (kM J J (kO J (Y4 J J (fun _ => (Q0 (Y0 J (rS (kM J J (kM J J (kM J J (Q0 (Y3 (U3 ?_)))))))))) (fun h => absurd h (by decide))))))))))))));exact end2 J J (.inr (.inl ⟨hsys, hc2, rfl, rfl⟩))
 ·obtain ⟨bt2, Bt3, Dt4, rfl, rfl, hDT⟩ := q1
  have hsys := hc;obtain ⟨hm0, hM, h400, hlm⟩ := sysE_ok hsys;obtain ⟨M, rfl⟩ : ∃ q : Nat, m = (q : Int) := ⟨m.toNat, by omega⟩;have hM : M <= 64 := by omega
  have h400 : ls.length <= 400 := by omega
  have hun : ¬ Uns ls (M + 1) := hc2;change DT ls (M + 1) Dt4 at hDT;obtain ⟨y, hy, hyb⟩ := set_pt hlm h400 hM hun;have hS := hDT.sm hy hyb;rw [List.append_assoc, List.singleton_append];rw [show ((M : Int).toNat) = M from rfl];refine kM J J (kO J (Q2 J J (kO J (Q2 J J (kM J J (kM J J (Q0 (rQ (rS (kM J J (kO J (Y4 J J (fun h => absurd h (by decide)) (fun _ => (Q0 (Z0 J (Q1 (W0 (rQ (rS (kM J J (kO J (a_lenx J hP.spot (kO J (a_eql J J (fun h8 => ?_) (fun h8 => ?_)))))))))))))))))))))))))
  ·refine Q0 (Y0 J (rI (kO J (a_lit J J J (fun b9 => (kM J J (Q0 (W0 (rS (kO J (a_lit J J J (fun b10 => (kM J J (Q0 (rQ (rS (kO J (Z2 J (kO J (Z1 J (.next (.next (.app (.next .here)))) J (kM J J (Q0 (Y1 ?_)))))))))))))))))))))))
   refine Y5 (fun j e A => ∃ (w b cp : Nat) (op : Bool), e = [(1, .slice (some ⟨b9, 0, none⟩) 1 1), (2, .pointer (some ⟨b1, 0, none⟩)), (6, .slice (some ⟨bt2, 0, none⟩) (M + 1) (M + 1)), (8, .slice (some ⟨b, 0, none⟩) (w + 1) cp), (26, .int .i64 (M : Int)), (27, .int .i64 (w : Int))] /\ A = (.row b 3 op (ints (ptL Dt4 ps w)) :: (.row b9 3 false ([.int .i64 0]) :: (seg Bt3 (M + 1) Dt4 (M + 1) ++ (.row bt2 25 false (slsT Bt3 (M + 1) (M + 1) (M + 1)) :: (.row b1 29 false ([.int .i64 (M : Int), .slice al ls.length cl]) :: []))))) /\ j = M - w /\ w <= M /\ FT op cp w) 700 844424930131968 281474976710656 ?_ (j := _) (env2 := _) (A2 := _) ?_ ?_ ?_ ?_ ⟨0, b10, 1, false, rfl, rfl, rfl, Nat.zero_le _, (.inr ⟨rfl, rfl, rfl⟩)⟩
   rotate_left
   ·omega
   ·omega
   ·exact (lc 1 J (lc 2 J (lc 6 J (lc 8 J (lc 26 J (lc 27 J Less.nil))))))
   ·exact (.q (.q (.r (.q (.q .slnil)))))
   rintro n hn j _ _ ⟨w, b, cp, op, rfl, rfl, rfl, hw, hT⟩;obtain ⟨hPk, hNb, _⟩ := ptL_ok (ps := ps) hDT hS hM hw;have hlw : (ptL Dt4 ps w).length = w + 1 := ptL_len;refine rS (kO J (V5 J J (fun h11 => ?_) (fun h11 => ?_)))
   ·refine Q0 (rQ (Y0 J (Q1 (W0 (rQ (Y1 (rS (kM J J (kM J J (Q0 (rS (kM J J (kM J J (kG J J (a_inl J J bw40_at rfl ?_)))))))))))))))
    unfold bw40;refine rS (kM J J (kM J J (Q0 (rS (kM J J (kM J J (Q0 (rS (kM J J (kO J (a_len J (kM J J (Q0 (rQ (rS (kM J J (kO J (a_len J (kM J J (Q0 (Y1 ?_)))))))))))))))))))));refine Y5 (fun j e A => ∃ (k : Nat) (lo hi : Int), e = [(0, .slice (some ⟨bt2, 0, none⟩) (M + 1) (M + 1)), (4, .int .i64 lo), (5, .int .i64 hi), (6, .int .i64 ((w + 1 : Nat) : Int)), (13, .slice (some ⟨b, 0, none⟩) (w + 1) cp), (14, .int .i64 ((w + 1 : Nat) : Int)), (15, .int .i64 (k : Int))] /\ A = (.row b 3 op (ints (ptL Dt4 ps w)) :: (.row b9 3 false ([.int .i64 0]) :: (seg Bt3 (M + 1) Dt4 (M + 1) ++ (.row bt2 25 false (slsT Bt3 (M + 1) (M + 1) (M + 1)) :: (.row b1 29 false ([.int .i64 (M : Int), .slice al ls.length cl]) :: []))))) /\ j = w + 1 - k /\ k <= w + 1 /\ lo = loV Dt4 (ptL Dt4 ps w) (w + 1) k /\ hi = hiV Dt4 (ptL Dt4 ps w) (w + 1) k) 300 281474976710656 281474976710656 ?_ (j := _) (env2 := _) (A2 := _) ?_ ?_ ?_ ?_ ⟨0, _, _, rfl, rfl, rfl, Nat.zero_le _, rfl, rfl⟩
    rotate_left
    ·omega
    ·omega
    ·exact (lc 0 J (lc 4 J (lc 5 J (lc 6 J (lc 13 J (lc 14 J (lc 15 J Less.nil)))))))
    ·exact (.q (.q (.r (.q (.q .slnil)))))
    rintro n hn j _ _ ⟨k, lo, hi, rfl, rfl, rfl, hk, hlo, hhi⟩;refine rS (kO J (V5 J J (fun h12 => ?_) (fun h12 => ?_)))
    ·have hl1 := hS.lo (w + 1) k (by omega) (by omega)
     have hl2 := hS.hi (w + 1) k (by omega) (by omega);have hl3 := hS.lo k (w + 1) (by omega) (by omega);have hl4 := hS.hi k (w + 1) (by omega) (by omega);have hx1 := hNb k (by omega);have blo := lo_bd hS (n := w + 1) (by omega) hNb (by omega) (k := k) (by omega) (by omega);have bhi := hi_bd hS (n := w + 1) (by omega) hNb (by omega) (k := k) (by omega) (by omega);rw [<- hlo] at blo;rw [<- hhi] at bhi;refine Q0 (rQ (Y0 J (Q1 (W0 (rQ (Y1 (rS (kM J J (kO J (W4 (j := k) J J (by omega) (by omega) (kO J (a_ldI J .here (by first | omega | (simp; done) | (simp; omega)) (kM J J (kM J J (Q0 (rQ (rS (kM J J (kM J J (kO J (W4 (j := (w + 1)) J J (by omega) (by omega) (kO J (Z1 J (.next (.next (.app .here))) (sls_get (by omega) (by omega)) (kM J J (kO J (W4 (j := k) J J (by omega) (by omega) (kO J (U5 (x := (Dt4) ((w + 1)) (k)) J (.next (.next (own_seg (by omega)))) (by rw [rowT_len]; omega) (rowT_get (by omega)) (kM J J ?_)))))))))))))))))))))))))))));refine Q0 (rS (kM J J (kO J (Y4 J J (fun h13 => ?_) (fun h13 => ?_)))))
     ·refine Q0 (Y0 J (rI (kM J J (kM J J (kM J J (kO J (a_sub J J (by omega) (kO J (a_max J (kM J J (Q0 (W0 (rS (kM J J (kM J J (kO J (W4 (j := k) J J (by omega) (by omega) (kO J (Z1 J (.next (.next (.app .here))) (sls_get (by omega) (by omega)) (kM J J (kO J (W4 (j := (w + 1)) J J (by omega) (by omega) (kO J (U5 (x := (Dt4) (k) ((w + 1))) J (.next (.next (own_seg (by omega)))) (by rw [rowT_len]; omega) (rowT_get (by omega)) (kM J J (Q0 (rS (kM J J (kO J (Y4 J J (fun h14 => ?_) (fun h14 => ?_)))))))))))))))))))))))))))))))
      ·refine Q0 (Y0 J (rI (kM J J (kM J J (kM J J (kO J (V3 J J (by omega) (kO J (a_min J (kM J J (Q0 (U1 (W0 (rI (kO J (V3 J J (by omega) (kM J J (Q0 (W0 ?_)))))))))))))))))))
       exact ⟨rfl, _, _, _, (show w + 1 - (k + 1) < w + 1 - k by omega), (lc 0 J (lc 4 J (lc 5 J (lc 6 J (lc 13 J (lc 14 J (lc 15 J Less.nil))))))), (.q (.q (.r (.q (.q .slnil))))), ⟨k + 1, _, _, rfl, rfl, rfl, by omega, (by first | exact lo_free hlo (by assumption) | exact lo_some hlo (by assumption)), (by first | exact hi_free hhi (by assumption) | exact hi_some hhi (by assumption))⟩⟩
      ·refine Q0 (Z0 J (Q1 (U1 (W0 (rI (kO J (V3 J J (by omega) (kM J J (Q0 (W0 ?_))))))))))
       exact ⟨rfl, _, _, _, (show w + 1 - (k + 1) < w + 1 - k by omega), (lc 0 J (lc 4 J (lc 5 J (lc 6 J (lc 13 J (lc 14 J (lc 15 J Less.nil))))))), (.q (.q (.r (.q (.q .slnil))))), ⟨k + 1, _, _, rfl, rfl, rfl, by omega, (by first | exact lo_free hlo (by assumption) | exact lo_some hlo (by assumption)), (by first | exact hi_free hhi (by assumption) | exact hi_some hhi (by assumption))⟩⟩
     ·refine Q0 (Z0 J (Q1 (W0 (rS (kM J J (kM J J (kO J (W4 (j := k) J J (by omega) (by omega) (kO J (Z1 J (.next (.next (.app .here))) (sls_get (by omega) (by omega)) (kM J J (kO J (W4 (j := (w + 1)) J J (by omega) (by omega) (kO J (U5 (x := (Dt4) (k) ((w + 1))) J (.next (.next (own_seg (by omega)))) (by rw [rowT_len]; omega) (rowT_get (by omega)) (kM J J (Q0 (rS (kM J J (kO J (Y4 J J (fun h15 => ?_) (fun h15 => ?_))))))))))))))))))))))
      ·refine Q0 (Y0 J (rI (kM J J (kM J J (kM J J (kO J (V3 J J (by omega) (kO J (a_min J (kM J J (Q0 (U1 (W0 (rI (kO J (V3 J J (by omega) (kM J J (Q0 (W0 ?_)))))))))))))))))))
       exact ⟨rfl, _, _, _, (show w + 1 - (k + 1) < w + 1 - k by omega), (lc 0 J (lc 4 J (lc 5 J (lc 6 J (lc 13 J (lc 14 J (lc 15 J Less.nil))))))), (.q (.q (.r (.q (.q .slnil))))), ⟨k + 1, _, _, rfl, rfl, rfl, by omega, (by first | exact lo_free hlo (by assumption) | exact lo_some hlo (by assumption)), (by first | exact hi_free hhi (by assumption) | exact hi_some hhi (by assumption))⟩⟩
      ·refine Q0 (Z0 J (Q1 (U1 (W0 (rI (kO J (V3 J J (by omega) (kM J J (Q0 (W0 ?_))))))))))
       exact ⟨rfl, _, _, _, (show w + 1 - (k + 1) < w + 1 - k by omega), (lc 0 J (lc 4 J (lc 5 J (lc 6 J (lc 13 J (lc 14 J (lc 15 J Less.nil))))))), (.q (.q (.r (.q (.q .slnil))))), ⟨k + 1, _, _, rfl, rfl, rfl, by omega, (by first | exact lo_free hlo (by assumption) | exact lo_some hlo (by assumption)), (by first | exact hi_free hhi (by assumption) | exact hi_some hhi (by assumption))⟩⟩
    ·have hkw : k = w + 1 := by omega
     subst hkw;have blo := lo_bd hS (n := w + 1) (by omega) hNb (by omega) (k := w + 1) (by omega) (Nat.le_refl _);have bhi := hi_bd hS (n := w + 1) (by omega) hNb (by omega) (k := w + 1) (by omega) (Nat.le_refl _);have hroom := lo_hi hDT (by omega) hPk (lo_Lo hS (by omega) hNb (by omega) (Nat.le_refl _)) (hi_Hi hS (by omega) hNb (by omega) (Nat.le_refl _));rw [hlw, <- hlo, <- hhi] at hroom;rw [<- hlo] at blo;rw [<- hhi] at bhi;refine Q0 (rQ (Z0 J (Q5 (Q3 (Q3 (Z3 (W0 (rS (kM J J (kM J J (kM J J (kM J J (Q0 (Y3 (endD2 J J .nil (kM J J (kO J (Q2 J J (kO J (Q2 J J (kM J J (kM J J (Q0 (rI (kM J J ?_)))))))))))))))))))))))));refine kM J J (kM J J (kM J J (kM J J (kM J J (kO J (a_len J (kO J (a_rem J J (by omega) ?_))))))));have hpv9 : pkV ps w = 0 := if_pos (by omega);refine kO J (W4 (j := 0) J J (Int.tmod_one _) (by decide) (kO J (Z1 J (.next .here) J (kO J (a_callV J J (fun s1 h1 => choose_s _ _ _ _ s1 h1.wf (by omega) (by omega) hroom) (kO J (a_lit J J J (fun b16 => (kO J (a_app J J (Src.own .here rfl (by simp)) (.next .here) (by rw [ints_len, hlw, Nat.mul_one]) (tight_of hT) (by decide) (by omega) (by omega) (fun b17 => (kM J J (Q0 (U1 (W0 (rI (kO J (V3 J J (by omega) (kM J J (Q0 (W0 ?_)))))))))))))))))))));exact ⟨rfl, _, _, _, (show M - (w + 1) < M - w by omega), (lc 1 J (lc 2 J (lc 6 J (lc 8 J (lc 26 J (lc 27 J Less.nil)))))), (.q (.cons _ (.q (.r (.q (.q .slnil)))))), ⟨w + 1, b17, _, _, rfl, (by rw [List.set_cons_zero, show ptL Dt4 ps (w + 1) = ptL Dt4 ps w ++ [_] from rfl, snoc1, hpv9, <- hlo, <- hhi]), rfl, by omega, (.inl ⟨rfl, rfl⟩)⟩⟩
   ·have hwM9 : w = M := by omega
    refine Q0 (rQ (Z0 J (Q5 (Q3 (Q3 (Z3 (W0 (rS (kM J J (kM J J (kM J J (Q0 (Y3 ?_)))))))))))));have hwM : w = M := by omega
    subst hwM;exact end2A J J (.q (.cons _ (List.sublist_append_of_sublist_right (.cons _ (.cons _ .slnil))))) (.inr (.inr ⟨hsys, hc2, _, _, _, _, rfl, rfl, hDT⟩))
  ·refine Q0 (Z0 J (Q1 (W0 (rS (kO J (a_lit J J J (fun b18 => (kM J J (Q0 (rQ (rS (kO J (Z2 J (kO J (Z1 J (.next (.app (.next .here))) J (kM J J (Q0 (Y1 ?_))))))))))))))))))
   refine Y5 (fun j e A => ∃ (w b cp : Nat) (op : Bool), e = [(1, .slice ap ps.length cpk), (2, .pointer (some ⟨b1, 0, none⟩)), (6, .slice (some ⟨bt2, 0, none⟩) (M + 1) (M + 1)), (8, .slice (some ⟨b, 0, none⟩) (w + 1) cp), (26, .int .i64 (M : Int)), (27, .int .i64 (w : Int))] /\ A = (.row b 3 op (ints (ptL Dt4 ps w)) :: (seg Bt3 (M + 1) Dt4 (M + 1) ++ (.row bt2 25 false (slsT Bt3 (M + 1) (M + 1) (M + 1)) :: (.row b1 29 false ([.int .i64 (M : Int), .slice al ls.length cl]) :: [])))) /\ j = M - w /\ w <= M /\ FT op cp w) 700 844424930131968 281474976710656 ?_ (j := _) (env2 := _) (A2 := _) ?_ ?_ ?_ ?_ ⟨0, b18, 1, false, rfl, rfl, rfl, Nat.zero_le _, (.inr ⟨rfl, rfl, rfl⟩)⟩
   rotate_left
   ·omega
   ·omega
   ·exact (lc 1 J (lc 2 J (lc 6 J (lc 8 J (lc 26 J (lc 27 J Less.nil))))))
   ·exact (.q (.r (.q (.q .slnil))))
   rintro n hn j _ _ ⟨w, b, cp, op, rfl, rfl, rfl, hw, hT⟩;obtain ⟨hPk, hNb, _⟩ := ptL_ok (ps := ps) hDT hS hM hw;have hlw : (ptL Dt4 ps w).length = w + 1 := ptL_len;refine rS (kO J (V5 J J (fun h19 => ?_) (fun h19 => ?_)))
   ·refine Q0 (rQ (Y0 J (Q1 (W0 (rQ (Y1 (rS (kM J J (kM J J (Q0 (rS (kM J J (kM J J (kG J J (a_inl J J bw40_at rfl ?_)))))))))))))))
    unfold bw40;refine rS (kM J J (kM J J (Q0 (rS (kM J J (kM J J (Q0 (rS (kM J J (kO J (a_len J (kM J J (Q0 (rQ (rS (kM J J (kO J (a_len J (kM J J (Q0 (Y1 ?_)))))))))))))))))))));refine Y5 (fun j e A => ∃ (k : Nat) (lo hi : Int), e = [(0, .slice (some ⟨bt2, 0, none⟩) (M + 1) (M + 1)), (4, .int .i64 lo), (5, .int .i64 hi), (6, .int .i64 ((w + 1 : Nat) : Int)), (13, .slice (some ⟨b, 0, none⟩) (w + 1) cp), (14, .int .i64 ((w + 1 : Nat) : Int)), (15, .int .i64 (k : Int))] /\ A = (.row b 3 op (ints (ptL Dt4 ps w)) :: (seg Bt3 (M + 1) Dt4 (M + 1) ++ (.row bt2 25 false (slsT Bt3 (M + 1) (M + 1) (M + 1)) :: (.row b1 29 false ([.int .i64 (M : Int), .slice al ls.length cl]) :: [])))) /\ j = w + 1 - k /\ k <= w + 1 /\ lo = loV Dt4 (ptL Dt4 ps w) (w + 1) k /\ hi = hiV Dt4 (ptL Dt4 ps w) (w + 1) k) 300 281474976710656 281474976710656 ?_ (j := _) (env2 := _) (A2 := _) ?_ ?_ ?_ ?_ ⟨0, _, _, rfl, rfl, rfl, Nat.zero_le _, rfl, rfl⟩
    rotate_left
    ·omega
    ·omega
    ·exact (lc 0 J (lc 4 J (lc 5 J (lc 6 J (lc 13 J (lc 14 J (lc 15 J Less.nil)))))))
    ·exact (.q (.r (.q (.q .slnil))))
    rintro n hn j _ _ ⟨k, lo, hi, rfl, rfl, rfl, hk, hlo, hhi⟩;refine rS (kO J (V5 J J (fun h20 => ?_) (fun h20 => ?_)))
    ·have hl1 := hS.lo (w + 1) k (by omega) (by omega)
     have hl2 := hS.hi (w + 1) k (by omega) (by omega);have hl3 := hS.lo k (w + 1) (by omega) (by omega);have hl4 := hS.hi k (w + 1) (by omega) (by omega);have hx1 := hNb k (by omega);have blo := lo_bd hS (n := w + 1) (by omega) hNb (by omega) (k := k) (by omega) (by omega);have bhi := hi_bd hS (n := w + 1) (by omega) hNb (by omega) (k := k) (by omega) (by omega);rw [<- hlo] at blo;rw [<- hhi] at bhi;refine Q0 (rQ (Y0 J (Q1 (W0 (rQ (Y1 (rS (kM J J (kO J (W4 (j := k) J J (by omega) (by omega) (kO J (a_ldI J .here (by first | omega | (simp; done) | (simp; omega)) (kM J J (kM J J (Q0 (rQ (rS (kM J J (kM J J (kO J (W4 (j := (w + 1)) J J (by omega) (by omega) (kO J (Z1 J (.next (.app .here)) (sls_get (by omega) (by omega)) (kM J J (kO J (W4 (j := k) J J (by omega) (by omega) (kO J (U5 (x := (Dt4) ((w + 1)) (k)) J (.next (own_seg (by omega))) (by rw [rowT_len]; omega) (rowT_get (by omega)) (kM J J ?_)))))))))))))))))))))))))))));refine Q0 (rS (kM J J (kO J (Y4 J J (fun h21 => ?_) (fun h21 => ?_)))))
     ·refine Q0 (Y0 J (rI (kM J J (kM J J (kM J J (kO J (a_sub J J (by omega) (kO J (a_max J (kM J J (Q0 (W0 (rS (kM J J (kM J J (kO J (W4 (j := k) J J (by omega) (by omega) (kO J (Z1 J (.next (.app .here)) (sls_get (by omega) (by omega)) (kM J J (kO J (W4 (j := (w + 1)) J J (by omega) (by omega) (kO J (U5 (x := (Dt4) (k) ((w + 1))) J (.next (own_seg (by omega))) (by rw [rowT_len]; omega) (rowT_get (by omega)) (kM J J (Q0 (rS (kM J J (kO J (Y4 J J (fun h22 => ?_) (fun h22 => ?_)))))))))))))))))))))))))))))))
      ·refine Q0 (Y0 J (rI (kM J J (kM J J (kM J J (kO J (V3 J J (by omega) (kO J (a_min J (kM J J (Q0 (U1 (W0 (rI (kO J (V3 J J (by omega) (kM J J (Q0 (W0 ?_)))))))))))))))))))
       exact ⟨rfl, _, _, _, (show w + 1 - (k + 1) < w + 1 - k by omega), (lc 0 J (lc 4 J (lc 5 J (lc 6 J (lc 13 J (lc 14 J (lc 15 J Less.nil))))))), (.q (.r (.q (.q .slnil)))), ⟨k + 1, _, _, rfl, rfl, rfl, by omega, (by first | exact lo_free hlo (by assumption) | exact lo_some hlo (by assumption)), (by first | exact hi_free hhi (by assumption) | exact hi_some hhi (by assumption))⟩⟩
      ·refine Q0 (Z0 J (Q1 (U1 (W0 (rI (kO J (V3 J J (by omega) (kM J J (Q0 (W0 ?_))))))))))
       exact ⟨rfl, _, _, _, (show w + 1 - (k + 1) < w + 1 - k by omega), (lc 0 J (lc 4 J (lc 5 J (lc 6 J (lc 13 J (lc 14 J (lc 15 J Less.nil))))))), (.q (.r (.q (.q .slnil)))), ⟨k + 1, _, _, rfl, rfl, rfl, by omega, (by first | exact lo_free hlo (by assumption) | exact lo_some hlo (by assumption)), (by first | exact hi_free hhi (by assumption) | exact hi_some hhi (by assumption))⟩⟩
     ·refine Q0 (Z0 J (Q1 (W0 (rS (kM J J (kM J J (kO J (W4 (j := k) J J (by omega) (by omega) (kO J (Z1 J (.next (.app .here)) (sls_get (by omega) (by omega)) (kM J J (kO J (W4 (j := (w + 1)) J J (by omega) (by omega) (kO J (U5 (x := (Dt4) (k) ((w + 1))) J (.next (own_seg (by omega))) (by rw [rowT_len]; omega) (rowT_get (by omega)) (kM J J (Q0 (rS (kM J J (kO J (Y4 J J (fun h23 => ?_) (fun h23 => ?_))))))))))))))))))))))
      ·refine Q0 (Y0 J (rI (kM J J (kM J J (kM J J (kO J (V3 J J (by omega) (kO J (a_min J (kM J J (Q0 (U1 (W0 (rI (kO J (V3 J J (by omega) (kM J J (Q0 (W0 ?_)))))))))))))))))))
       exact ⟨rfl, _, _, _, (show w + 1 - (k + 1) < w + 1 - k by omega), (lc 0 J (lc 4 J (lc 5 J (lc 6 J (lc 13 J (lc 14 J (lc 15 J Less.nil))))))), (.q (.r (.q (.q .slnil)))), ⟨k + 1, _, _, rfl, rfl, rfl, by omega, (by first | exact lo_free hlo (by assumption) | exact lo_some hlo (by assumption)), (by first | exact hi_free hhi (by assumption) | exact hi_some hhi (by assumption))⟩⟩
      ·refine Q0 (Z0 J (Q1 (U1 (W0 (rI (kO J (V3 J J (by omega) (kM J J (Q0 (W0 ?_))))))))))
       exact ⟨rfl, _, _, _, (show w + 1 - (k + 1) < w + 1 - k by omega), (lc 0 J (lc 4 J (lc 5 J (lc 6 J (lc 13 J (lc 14 J (lc 15 J Less.nil))))))), (.q (.r (.q (.q .slnil)))), ⟨k + 1, _, _, rfl, rfl, rfl, by omega, (by first | exact lo_free hlo (by assumption) | exact lo_some hlo (by assumption)), (by first | exact hi_free hhi (by assumption) | exact hi_some hhi (by assumption))⟩⟩
    ·have hkw : k = w + 1 := by omega
     subst hkw;have blo := lo_bd hS (n := w + 1) (by omega) hNb (by omega) (k := w + 1) (by omega) (Nat.le_refl _);have bhi := hi_bd hS (n := w + 1) (by omega) hNb (by omega) (k := w + 1) (by omega) (Nat.le_refl _);have hroom := lo_hi hDT (by omega) hPk (lo_Lo hS (by omega) hNb (by omega) (Nat.le_refl _)) (hi_Hi hS (by omega) hNb (by omega) (Nat.le_refl _));rw [hlw, <- hlo, <- hhi] at hroom;rw [<- hlo] at blo;rw [<- hhi] at bhi;refine Q0 (rQ (Z0 J (Q5 (Q3 (Q3 (Z3 (W0 (rS (kM J J (kM J J (kM J J (kM J J (Q0 (Y3 (endD2 J J .nil (kM J J (kO J (Q2 J J (kO J (Q2 J J (kM J J (kM J J (Q0 (rI (kM J J ?_)))))))))))))))))))))))));refine kM J J (kM J J (kM J J (kM J J (kM J J (kO J (a_lenx J hP.spot (kO J (a_rem J J (by omega) ?_))))))));have hpv9 : pkV ps w = ps.getD (w % ps.length) 0 := if_neg (by omega);have hmd9 : w % ps.length < ps.length := Nat.mod_lt _ (by omega);refine kO J (V7 (j := w % ps.length) hP rfl rfl rfl rfl (by omega) (fun _ _ a99 => (kO J (Q7 J (hP.at a99 (by omega)) (kO J (a_callV J J (fun s1 h1 => choose_s _ _ _ _ s1 h1.wf (by omega) (by omega) hroom) (kO J (a_lit J J J (fun b25 => (kO J (a_app J J (Src.own .here rfl (by simp)) (.next .here) (by rw [ints_len, hlw, Nat.mul_one]) (tight_of hT) (by decide) (by omega) (by omega) (fun b26 => (kM J J (Q0 (U1 (W0 (rI (kO J (V3 J J (by omega) (kM J J (Q0 (W0 ?_))))))))))))))))))))));exact ⟨rfl, _, _, _, (show M - (w + 1) < M - w by omega), (lc 1 J (lc 2 J (lc 6 J (lc 8 J (lc 26 J (lc 27 J Less.nil)))))), (.q (.cons _ (.r (.q (.q .slnil))))), ⟨w + 1, b26, _, _, rfl, (by rw [List.set_cons_zero, show ptL Dt4 ps (w + 1) = ptL Dt4 ps w ++ [_] from rfl, snoc1, hpv9, <- hlo, <- hhi]), rfl, by omega, (.inl ⟨rfl, rfl⟩)⟩⟩
   ·have hwM9 : w = M := by omega
    refine Q0 (rQ (Z0 J (Q5 (Q3 (Q3 (Z3 (W0 (rS (kM J J (kM J J (kM J J (Q0 (Y3 ?_)))))))))))));have hwM : w = M := by omega
    subst hwM;exact end2A J J (.q (List.sublist_append_of_sublist_right (.cons _ (.cons _ .slnil)))) (.inr (.inr ⟨hsys, hc2, _, _, _, _, rfl, rfl, hDT⟩))
end
theorem Z6 {f g : Nat -> Int} : ∀ {N : Nat}, (∀ i, i < N -> f i = g i) -> tot f N = tot g N
 | 0, _ => rfl
 | N + 1, h => by show tot f N + f N = tot g N + g N; rw [Z6 (N := N) (fun i hi => h i (by omega)), h N (by omega)]
theorem tot_le {f g : Nat -> Int} : ∀ {N : Nat}, (∀ i, i < N -> f i <= g i) -> tot f N <= tot g N
 | 0, _ => Int.le_refl _
 | N + 1, h => by
  have h1 := tot_le (N := N) (fun i hi => h i (by omega));have h2 := h N (by omega);show tot f N + f N <= tot g N + g N;omega
theorem tot_add {f g : Nat -> Int} : ∀ {N : Nat}, tot (fun i => f i + g i) N = tot f N + tot g N
 | 0 => rfl
 | N + 1 => by
  have h1 := tot_add (f := f) (g := g) (N := N);show tot (fun i => f i + g i) N + (f N + g N) = tot f N + f N + (tot g N + g N);omega
theorem tot_sub {f g : Nat -> Int} : ∀ {N : Nat}, tot (fun i => f i - g i) N = tot f N - tot g N
 | 0 => rfl
 | N + 1 => by
  have h1 := tot_sub (f := f) (g := g) (N := N);show tot (fun i => f i - g i) N + (f N - g N) = tot f N + f N - (tot g N + g N);omega
theorem tot_nil {f : Nat -> Int} : ∀ {N : Nat}, (∀ i, i < N -> f i = 0) -> tot f N = 0
 | 0, _ => rfl
 | N + 1, h => by show tot f N + f N = 0; rw [tot_nil (N := N) (fun i hi => h i (by omega)), h N (by omega)]; rfl
theorem tot_one {c : Nat -> Int} {a : Nat} : ∀ {N : Nat}, a < N -> tot (fun v => if a = v then c v else 0) N = c a
 | N + 1, h => by
  show tot (fun v => if a = v then c v else 0) N + (if a = N then c N else 0) = c a;by_cases q : a = N
  ·subst q
   rw [if_pos rfl, tot_nil (fun i hi => if_neg (by omega))]; omega
  ·rw [if_neg q, tot_one (N := N) (by omega)]; omega
def net (ts : List (List Int)) (t : Nat -> Int) : Nat -> Nat -> Int
 | 0, _ => 0
 | k + 1, v => net ts t k v + ((if lb ts k = v then t k else 0) - (if la ts k = v then t k else 0))
theorem dot_net {ts : List (List Int)} {t x : Nat -> Int} {N : Nat} : ∀ {k : Nat}, (∀ i, i < k -> la ts i < N /\ lb ts i < N) -> tot (fun v => x v * net ts t k v) N = tot (fun i => t i * (x (lb ts i) - x (la ts i))) k
 | 0, _ => tot_nil (fun i _ => Int.mul_zero _)
 | k + 1, h => by
  have ih := dot_net (t := t) (x := x) (k := k) (fun i hi => h i (by omega));obtain ⟨ha, hb⟩ := h k (by omega);have e : ∀ v, v < N -> x v * net ts t (k + 1) v = x v * net ts t k v + ((if lb ts k = v then x v * t k else 0) - (if la ts k = v then x v * t k else 0)) := fun v _ => by
   show x v * (net ts t k v + ((if lb ts k = v then t k else 0) - (if la ts k = v then t k else 0))) = _;rw [Int.mul_add, Int.mul_sub]
   congr 1
   congr 1
   ·split <;> simp
   ·split <;> simp
  rw [Z6 e, tot_add, tot_sub, ih, tot_one (c := fun v => x v * t k) hb, tot_one (c := fun v => x v * t k) ha];show _ = tot _ k + t k * (x (lb ts k) - x (la ts k));rw [Int.mul_sub, Int.mul_comm (t k), Int.mul_comm (t k)]
theorem dual_le {ts : List (List Int)} {t x : Nat -> Int} {K : Nat} (hn : ∀ i, i < K -> 0 <= t i) (hx : ∀ i, i < K -> x (lb ts i) <= x (la ts i) + lw ts i) : tot (fun i => t i * (x (lb ts i) - x (la ts i))) K <= tot (fun i => t i * lw ts i) K :=
 tot_le (fun i hi => Int.mul_le_mul_of_nonneg_left (by have := hx i hi; omega) (hn i hi))
def ind (U : Nat -> Bool) (v : Nat) : Int := if U v = true then 1 else 0
def Lg (M : Nat) (ts : List (List Int)) : Prop := ∀ i, i < ts.length -> la ts i < M + 1 /\ lb ts i < M + 1 /\ la ts i ≠ lb ts i /\ -20000 <= lw ts i /\ lw ts i <= 1280001 /\ ∃ y3, ts[i]? = some [((la ts i : Nat) : Int), ((lb ts i : Nat) : Int), lw ts i, y3]
theorem lg_of {M : Nat} {ls : List (List Int)} (hl : lmB (M : Int) ls = true) : Lg M ls := fun i hi => by
 have hL := lim_of hl hi;obtain ⟨u0, u1, y2, y3, e, hc⟩ := lm_row hl hi;have e3 : ls.getD i [] = [(u0 : Int), (u1 : Int), y2, y3] := by rw [List.getD_eq_getElem?_getD, e]; rfl
 have e2 : lw ls i = y2 := by unfold lw; rw [e3]; rfl
 exact ⟨hL.ha, hL.hb, hL.ne, by omega, by omega, hL.row⟩
def W1 : Nat -> List (List Int)
 | 0 => []
 | m + 1 => W1 m ++ [[0, ((m + 1 : Nat) : Int), 1280001, 0], [((m + 1 : Nat) : Int), 0, 1280001, 0]]
theorem fld {ts : List (List Int)} {i a b : Nat} {w y : Int} (h : ts[i]? = some [(a : Int), (b : Int), w, y]) : la ts i = a /\ lb ts i = b /\ lw ts i = w := by
 have e : ts.getD i [] = [(a : Int), (b : Int), w, y] := by rw [List.getD_eq_getElem?_getD, h]; rfl
 refine ⟨?_, ?_, ?_⟩
 ·unfold la; rw [e]; exact Int.toNat_natCast a
 ·unfold lb; rw [e]; exact Int.toNat_natCast b
 ·unfold lw; rw [e]; rfl
theorem app_fld {ls us : List (List Int)} {i : Nat} (h : i < ls.length) : la (ls ++ us) i = la ls i /\ lb (ls ++ us) i = lb ls i /\ lw (ls ++ us) i = lw ls i := by
 have e : (ls ++ us).getD i [] = ls.getD i [] := by rw [List.getD_eq_getElem?_getD, List.getElem?_append_left h, <- List.getD_eq_getElem?_getD]
 unfold la lb lw;rw [e]; exact ⟨rfl, rfl, rfl⟩
structure Opt (ls : List (List Int)) (N : Nat) (w t p : Nat -> Int) : Prop where
 nn : ∀ i, i < ls.length -> 0 <= t i
 nt : ∀ v, v < N -> net ls t ls.length v = w v
 st : ∀ i, i < ls.length -> p (lb ls i) <= p (la ls i) + lw ls i
 ti : ∀ i, i < ls.length -> 0 < t i -> p (lb ls i) = p (la ls i) + lw ls i
theorem Opt.le {ls : List (List Int)} {N : Nat} {w t p x : Nat -> Int} (h : Opt ls N w t p) (hN : ∀ i, i < ls.length -> la ls i < N /\ lb ls i < N) (hx : ∀ i, i < ls.length -> x (lb ls i) <= x (la ls i) + lw ls i) : tot (fun v => x v * w v) N <= tot (fun i => t i * lw ls i) ls.length := by
 have := dual_le (t := t) h.nn hx;rw [<- dot_net hN] at this
 rwa [Z6 (fun v hv => by rw [<- h.nt v hv])]
section
variable {X : FuncId -> List Value -> St -> (Value -> St -> Bool) -> Bool}
end
structure Cm where
 lim : Nat
 bk : Bool
 fr : Int
 to : Nat
 ms : Int
structure Tp where
 pr : Nat -> Int
 cm : Nat -> Cm
 lf : Nat -> Bool
structure Rs (ts : List (List Int)) (t : Nat -> Int) (u : Nat) (c : Cm) : Prop where
 lt : c.lim < ts.length
 fr : c.fr = (u : Int)
 wh : (c.bk = false /\ la ts c.lim = u /\ c.to = lb ts c.lim /\ c.ms = lw ts c.lim) ∨ (c.bk = true /\ lb ts c.lim = u /\ c.to = la ts c.lim /\ c.ms = -(lw ts c.lim) /\ 0 < t c.lim)
def upT (p : Nat -> Int) (g : Tp) (v i : Nat) (bk : Bool) (to : Nat) (ms : Int) : Tp :=
 if g.pr v + ms + p v - p to < g.pr to then ⟨W2 g.pr to (g.pr v + ms + p v - p to), W2 g.cm to ⟨i, bk, (v : Int), to, ms⟩, g.lf⟩ else g
def rxT (ts : List (List Int)) (t p : Nat -> Int) (g : Tp) (v i : Nat) : Tp :=
 if lb ts i = v then (if t i = 0 then g else upT p g v i true (la ts i) (-(lw ts i))) else upT p g v i false (lb ts i) (lw ts i)
def cnB (f : Nat -> Bool) : Nat -> Nat
 | 0 => 0
 | k + 1 => cnB f k + (if f k = true then 1 else 0)
structure Dj (ts : List (List Int)) (N : Nat) (t p : Nat -> Int) (S : Nat -> Prop) (U : Int) (g : Tp) (rk : Nat -> Nat) : Prop where
 src : ∀ v, v < N -> S v -> g.pr v = 0 /\ (g.cm v).fr = -1
 pos : ∀ v, v < N -> 0 <= g.pr v
 bd : ∀ v, v < N -> g.pr v = 1000000000 ∨ g.pr v + p v <= U + 1280001 * (cnB g.lf N : Int)
 cam : ∀ v, v < N -> ¬ g.pr v = 1000000000 -> S v ∨ ∃ u, u < N /\ g.lf u = true /\ Rs ts t u (g.cm v) /\ (g.cm v).to = v /\ g.pr v = g.pr u + (g.cm v).ms + p u - p v /\ (g.lf v = true -> rk u < rk v)
 rkc : ∀ v, v < N -> g.lf v = true -> rk v < cnB g.lf N
 fin : ∀ v, v < N -> g.lf v = true -> ¬ g.pr v = 1000000000
 ord : ∀ u v, u < N -> v < N -> g.lf u = true -> g.lf v = false -> g.pr u <= g.pr v
 rel : ∀ u, u < N -> g.lf u = true -> ∀ i, i < ts.length -> (la ts i = u -> g.pr (lb ts i) <= g.pr u + lw ts i + p u - p (lb ts i)) /\ (lb ts i = u -> 0 < t i -> g.pr (la ts i) <= g.pr u + -(lw ts i) + p u - p (la ts i))
structure Kpt (ts : List (List Int)) (N : Nat) (t p : Nat -> Int) : Prop where
 lg : ∀ i, i < ts.length -> la ts i < N /\ lb ts i < N /\ la ts i ≠ lb ts i /\ -20000 <= lw ts i /\ lw ts i <= 1280001
 nn : ∀ i, i < ts.length -> 0 <= t i
 st : ∀ i, i < ts.length -> p (lb ts i) <= p (la ts i) + lw ts i
 ti : ∀ i, i < ts.length -> 0 < t i -> p (lb ts i) = p (la ts i) + lw ts i
theorem Rs.to_lt {ts : List (List Int)} {N : Nat} {t p : Nat -> Int} {u : Nat} {c : Cm} (h : Rs ts t u c) (k : Kpt ts N t p) : c.to < N /\ c.to ≠ u /\ 0 <= c.ms + p u - p c.to /\ c.ms <= 1280001 /\ -1280001 <= c.ms := by
 obtain ⟨h1, h2, h3, h4, h5⟩ := k.lg c.lim h.lt;have h6 := k.st c.lim h.lt;have h7 := k.ti c.lim h.lt;rcases h.wh with ⟨_, w1, w2, w3⟩ | ⟨_, w1, w2, w3, w4⟩
 ·rw [w2, w3, <- w1]; exact ⟨h2, fun e => h3 e.symm, by omega, by omega, by omega⟩
 ·have := h7 w4
  rw [w2, w3, <- w1]; exact ⟨h1, h3, by omega, by omega, by omega⟩
structure Dq (ts : List (List Int)) (N : Nat) (t p : Nat -> Int) (S : Nat -> Prop) (U : Int) (g0 : Tp) (v0 : Nat) (rk : Nat -> Nat) (h : Tp) : Prop where
 lf : h.lf = W2 g0.lf v0 true
 le : ∀ v, v < N -> h.pr v <= g0.pr v
 vis : ∀ v, v < N -> h.lf v = true -> h.pr v = g0.pr v
 src : ∀ v, v < N -> S v -> h.pr v = 0 /\ (h.cm v).fr = -1
 ord : ∀ v, v < N -> h.lf v = false -> g0.pr v0 <= h.pr v
 bd : ∀ v, v < N -> h.pr v = 1000000000 ∨ h.pr v + p v <= U + 1280001 * ((cnB g0.lf N : Int) + 1)
 cam : ∀ v, v < N -> ¬ h.pr v = 1000000000 -> S v ∨ ∃ u, u < N /\ h.lf u = true /\ Rs ts t u (h.cm v) /\ (h.cm v).to = v /\ h.pr v = h.pr u + (h.cm v).ms + p u - p v /\ (h.lf v = true -> W2 rk v0 (cnB g0.lf N) u < W2 rk v0 (cnB g0.lf N) v)
theorem Dq.up {ts : List (List Int)} {N : Nat} {t p : Nat -> Int} {S : Nat -> Prop} {U : Int} {g0 : Tp} {v0 : Nat} {rk : Nat -> Nat} {h : Tp} {i to : Nat} {bk : Bool} {ms : Int} (k : Kpt ts N t p) (hj : Dj ts N t p S U g0 rk) (hv : v0 < N) (hv2 : g0.lf v0 = false) (hvf : ¬ g0.pr v0 = 1000000000) (hq : Dq ts N t p S U g0 v0 rk h) (hr : Rs ts t v0 ⟨i, bk, (v0 : Int), to, ms⟩) :
 Dq ts N t p S U g0 v0 rk (upT p h v0 i bk to ms) /\ (upT p h v0 i bk to ms).pr to <= g0.pr v0 + ms + p v0 - p to /\ ∀ v, v < N -> (upT p h v0 i bk to ms).pr v <= h.pr v := by
 obtain ⟨r1, r2, r3, r4, r5⟩ := hr.to_lt k;have r1 : to < N := r1;have r2 : to ≠ v0 := r2;have r3 : 0 <= ms + p v0 - p to := r3;have r4 : ms <= 1280001 := r4;have hl0 : h.lf v0 = true := by rw [hq.lf, U2]
 have hp0 := hq.vis v0 hv hl0;have hpos := hj.pos v0 hv;unfold upT;by_cases c : h.pr v0 + ms + p v0 - p to < h.pr to
 ·rw [if_pos c]
  have hnv : h.lf to = false := by
   cases e : h.lf to with
   | false => rfl
   | true =>
    have h1 := hq.vis to r1 e;rw [hq.lf, V0 r2] at e;have h2 := hj.ord to v0 r1 hv e hv2;omega
  have hnS : ¬ S to := fun s => by
   have := (hq.src to r1 s).1;omega
  refine ⟨⟨hq.lf, fun v hv' => ?_, fun v hv' hl => ?_, fun v hv' hs => ?_, fun v hv' hl => ?_, fun v hv' => ?_, fun v hv' hf => ?_⟩, ?_, fun v hv' => ?_⟩
  ·show W2 h.pr to _ v <= _
   by_cases e : v = to
   ·subst e; rw [U2]; have := hq.le v hv'; omega
   ·rw [V0 e]; exact hq.le v hv'
  ·have hl : h.lf v = true := hl
   show W2 h.pr to _ v = _;rw [V0 (fun e => by rw [e, hnv] at hl; cases hl)];exact hq.vis v hv' hl
  ·have ne : v ≠ to := fun e => hnS (e ▸ hs)
   show W2 h.pr to _ v = 0 /\ (W2 h.cm to _ v).fr = -1;rw [V0 ne, V0 ne]; exact hq.src v hv' hs
  ·show g0.pr v0 <= W2 h.pr to _ v
   by_cases e : v = to
   ·subst e; rw [U2]; omega
   ·rw [V0 e]; exact hq.ord v hv' hl
  ·show W2 h.pr to _ v = _ ∨ W2 h.pr to _ v + p v <= _
   by_cases e : v = to
   ·subst e
    rw [U2];have := (hj.bd v0 hv).resolve_left hvf;exact .inr (by omega)
   ·rw [V0 e]; exact hq.bd v hv'
  ·show S v ∨ ∃ u, u < N /\ h.lf u = true /\ Rs ts t u (W2 h.cm to _ v) /\ (W2 h.cm to _ v).to = v /\ W2 h.pr to _ v = W2 h.pr to _ u + (W2 h.cm to _ v).ms + p u - p v /\ (h.lf v = true -> W2 rk v0 (cnB g0.lf N) u < W2 rk v0 (cnB g0.lf N) v)
   by_cases e : v = to
   ·subst e
    rw [U2, U2];refine .inr ⟨v0, hv, hl0, hr, rfl, ?_, fun q => by rw [hnv] at q; cases q⟩;rw [V0 (fun e => r2 e.symm)]
   ·have hf' : ¬ W2 h.pr to (h.pr v0 + ms + p v0 - p to) v = 1000000000 := hf
    rw [V0 e] at hf';rw [V0 e, V0 e];rcases hq.cam v hv' hf' with q | ⟨u, u1, u2, u3, u4, u5, u6⟩
    ·exact .inl q
    ·refine .inr ⟨u, u1, u2, u3, u4, ?_, u6⟩
     rw [V0 (fun e => by rw [e, hnv] at u2; cases u2)];exact u5
  ·show W2 h.pr to _ to <= _
   rw [U2, hp0]; exact Int.le_refl _
  ·show W2 h.pr to _ v <= _
   by_cases e : v = to
   ·subst e; rw [U2]; omega
   ·rw [V0 e]; exact Int.le_refl _
 ·rw [if_neg c]
  exact ⟨hq, by omega, fun v _ => Int.le_refl _⟩
def Rq (ts : List (List Int)) (t p : Nat -> Int) (d : Int) (v0 q : Nat) (x : Nat -> Int) : Prop := ∀ j, j < q -> ∀ i : Nat, (nl ts ts.length v0).getD j 0 = (i : Int) -> (la ts i = v0 -> x (lb ts i) <= d + lw ts i + p v0 - p (lb ts i)) /\ (lb ts i = v0 -> 0 < t i -> x (la ts i) <= d + -(lw ts i) + p v0 - p (la ts i))
theorem Dq.step {ts : List (List Int)} {N : Nat} {t p : Nat -> Int} {S : Nat -> Prop} {U : Int} {g0 : Tp} {v0 : Nat} {rk : Nat -> Nat} {h : Tp} {q i : Nat} (k : Kpt ts N t p) (hj : Dj ts N t p S U g0 rk) (hv : v0 < N) (hv2 : g0.lf v0 = false) (hvf : ¬ g0.pr v0 = 1000000000) (hq : Dq ts N t p S U g0 v0 rk h) (hR : Rq ts t p (g0.pr v0) v0 q h.pr)
 (hi : (nl ts ts.length v0).getD q 0 = (i : Int)) (hil : i < ts.length) (hn : la ts i = v0 ∨ lb ts i = v0) : Dq ts N t p S U g0 v0 rk (rxT ts t p h v0 i) /\ Rq ts t p (g0.pr v0) v0 (q + 1) (rxT ts t p h v0 i).pr := by
 obtain ⟨k1, k2, k3, _, _⟩ := k.lg i hil;have more : ∀ h' : Tp, (∀ v, v < N -> h'.pr v <= h.pr v) -> ((la ts i = v0 -> h'.pr (lb ts i) <= g0.pr v0 + lw ts i + p v0 - p (lb ts i)) /\ (lb ts i = v0 -> 0 < t i -> h'.pr (la ts i) <= g0.pr v0 + -(lw ts i) + p v0 - p (la ts i))) -> Rq ts t p (g0.pr v0) v0 (q + 1) h'.pr := fun h' hle hh j hj' i' hi' => by
  by_cases e : j = q
  ·subst e
   have : i' = i := by rw [hi] at hi'; omega
   subst this;exact hh
  ·have h3 := hR j (by omega) i' hi'
   obtain ⟨i2, e2, l2, _⟩ : ∃ i2 : Nat, (nl ts ts.length v0).getD j 0 = (i2 : Int) /\ i2 < ts.length /\ True := by
    by_cases hjl : j < (nl ts ts.length v0).length
    ·obtain ⟨i2, a, b, _⟩ := nl_mem (ls := ts) (v := v0) (k := ts.length) hjl
     exact ⟨i2, a, b, trivial⟩
    ·rw [List.getD_eq_getElem?_getD, List.getElem?_eq_none (by omega)] at hi' ⊢
     exact ⟨0, rfl, by omega, trivial⟩
   have : i' = i2 := by rw [e2] at hi'; omega
   subst this;obtain ⟨a1, a2, _⟩ := k.lg i' l2;refine ⟨fun e3 => ?_, fun e3 e4 => ?_⟩
   ·have := h3.1 e3; have := hle _ a2; omega
   ·have := h3.2 e3 e4; have := hle _ a1; omega
 unfold rxT;by_cases c : lb ts i = v0
 ·rw [if_pos c]
  by_cases c2 : t i = 0
  ·rw [if_pos c2]
   exact ⟨hq, more h (fun v _ => Int.le_refl _) ⟨fun e => absurd (e.trans c.symm) k3, fun _ e => by omega⟩⟩
  ·rw [if_neg c2]
   have c3 := k.nn i hil;obtain ⟨u1, u2, u3⟩ := Dq.up (to := la ts i) (ms := -(lw ts i)) (bk := true) (i := i) k hj hv hv2 hvf hq ⟨hil, rfl, .inr ⟨rfl, c, rfl, rfl, (show 0 < t i by omega)⟩⟩;exact ⟨u1, more _ u3 ⟨fun e => absurd (e.trans c.symm) k3, fun _ _ => u2⟩⟩
 ·rw [if_neg c]
  have ha : la ts i = v0 := hn.resolve_right c;obtain ⟨u1, u2, u3⟩ := Dq.up (to := lb ts i) (ms := lw ts i) (bk := false) (i := i) k hj hv hv2 hvf hq ⟨hil, rfl, .inl ⟨rfl, ha, rfl, rfl⟩⟩;exact ⟨u1, more _ u3 ⟨fun _ => u2, fun e => absurd e c⟩⟩
theorem nam_ab {ts : List (List Int)} {M i v : Nat} (hg : Lg M ts) (hi : i < ts.length) : nam (ts.getD i []) v ↔ la ts i = v ∨ lb ts i = v := by
 obtain ⟨_, _, _, _, _, y3, e⟩ := hg i hi;have e2 : ts.getD i [] = [((la ts i : Nat) : Int), ((lb ts i : Nat) : Int), lw ts i, y3] := by rw [List.getD_eq_getElem?_getD, e]; rfl
 unfold nam;rw [e2];show ((la ts i : Nat) : Int) = (v : Int) ∨ ((lb ts i : Nat) : Int) = (v : Int) ↔ _;omega
section
variable {X : FuncId -> List Value -> St -> (Value -> St -> Bool) -> Bool}
end
def chn (g : Tp) (v0 : Nat) : Nat -> Nat
 | 0 => v0
 | j + 1 => (g.cm (chn g v0 j)).fr.toNat
structure Wy (ts : List (List Int)) (N : Nat) (t p : Nat -> Int) (S : Nat -> Prop) (g : Tp) (v0 : Nat) (rk : Nat -> Nat) (w : Nat) : Prop where
 lt : ∀ j, j <= w -> chn g v0 j < N
 fin : ∀ j, j <= w -> ¬ g.pr (chn g v0 j) = 1000000000
 lf : ∀ j, 0 < j -> j <= w -> g.lf (chn g v0 j) = true
 rs : ∀ j, j < w -> Rs ts t (chn g v0 (j + 1)) (g.cm (chn g v0 j)) /\ (g.cm (chn g v0 j)).to = chn g v0 j /\ g.pr (chn g v0 j) = g.pr (chn g v0 (j + 1)) + (g.cm (chn g v0 j)).ms + p (chn g v0 (j + 1)) - p (chn g v0 j)
 rk : ∀ j, j < w -> W2 rk v0 (cnB g.lf N) (chn g v0 (j + 1)) < W2 rk v0 (cnB g.lf N) (chn g v0 j)
theorem Wy.rank {ts : List (List Int)} {N : Nat} {t p : Nat -> Int} {S : Nat -> Prop} {g : Tp} {v0 : Nat} {rk : Nat -> Nat} {w : Nat} (h : Wy ts N t p S g v0 rk w) : ∀ {j : Nat}, j <= w -> W2 rk v0 (cnB g.lf N) (chn g v0 j) + j <= cnB g.lf N
 | 0, _ => by show W2 rk v0 (cnB g.lf N) v0 + 0 <= _; rw [U2]; exact Nat.le_refl _
 | j + 1, hj => by
  have := h.rank (j := j) (by omega);have := h.rk j (by omega);omega
theorem Wy.next {ts : List (List Int)} {N : Nat} {t p : Nat -> Int} {S : Nat -> Prop} {U : Int} {g : Tp} {v0 : Nat} {rk : Nat -> Nat} {w : Nat} (hj : Dj ts N t p S U g rk) (hv2 : g.lf v0 = false) (h : Wy ts N t p S g v0 rk w) (hn : ¬ (g.cm (chn g v0 w)).fr = -1) : Wy ts N t p S g v0 rk (w + 1) := by
 have hlt := h.lt w (Nat.le_refl _);have hnS : ¬ S (chn g v0 w) := fun s => hn (hj.src _ hlt s).2
 obtain ⟨u, u1, u2, u3, u4, u5, u6⟩ := (hj.cam _ hlt (h.fin w (Nat.le_refl _))).resolve_left hnS;have e : chn g v0 (w + 1) = u := by
  show (g.cm (chn g v0 w)).fr.toNat = u;rw [u3.fr, Int.toNat_natCast]
 have hu : u ≠ v0 := fun q => by rw [q, hv2] at u2; cases u2
 refine ⟨fun j hj' => ?_, fun j hj' => ?_, fun j h1 h2 => ?_, fun j hj' => ?_, fun j hj' => ?_⟩
 ·by_cases q : j = w + 1
  ·rw [q, e]; exact u1
  ·exact h.lt j (by omega)
 ·by_cases q : j = w + 1
  ·rw [q, e]; exact hj.fin u u1 u2
  ·exact h.fin j (by omega)
 ·by_cases q : j = w + 1
  ·rw [q, e]; exact u2
  ·exact h.lf j h1 (by omega)
 ·by_cases q : j = w
  ·rw [q, e]; exact ⟨u3, u4, u5⟩
  ·exact h.rs j (by omega)
 ·by_cases q : j = w
  ·rw [q, e, V0 hu]
   by_cases z : w = 0
   ·rw [z]
    show rk u < W2 rk v0 _ v0;rw [U2]; exact hj.rkc u u1 u2
   ·have hl := h.lf w (by omega) (Nat.le_refl _)
    have hc : chn g v0 w ≠ v0 := fun q => by rw [q, hv2] at hl; cases hl
    rw [V0 hc]; exact u6 hl
  ·exact h.rk j (by omega)
theorem Wy.inj {ts : List (List Int)} {N : Nat} {t p : Nat -> Int} {S : Nat -> Prop} {g : Tp} {v0 : Nat} {rk : Nat -> Nat} {w : Nat} (h : Wy ts N t p S g v0 rk w) {i j : Nat} (hi : i <= w) (hj : j <= w) (e : chn g v0 i = chn g v0 j) : i = j := by
 have key : ∀ d i, i + (d + 1) <= w -> W2 rk v0 (cnB g.lf N) (chn g v0 (i + (d + 1))) < W2 rk v0 (cnB g.lf N) (chn g v0 i) := by
  intro d
  induction d with
  | zero => intro i hi; exact h.rk i (by omega)
  | succ d ih =>
   intro i hi;have h1 := ih i (by omega);have h2 := h.rk (i + (d + 1)) (by omega);rw [show i + (d + 1 + 1) = i + (d + 1) + 1 by omega];omega
 refine Classical.byContradiction (fun q => ?_);rcases Nat.lt_or_ge i j with c | c
 ·have := key (j - i - 1) i (by omega)
  rw [show i + (j - i - 1 + 1) = j by omega, e] at this;omega
 ·have := key (i - j - 1) j (by omega)
  rw [show j + (i - j - 1 + 1) = i by omega, e] at this;omega
section
variable {X : FuncId -> List Value -> St -> (Value -> St -> Bool) -> Bool}
end
def fm (f : Nat -> Value) (n : Nat) : List Value := (List.range n).map f
theorem fm_len {f : Nat -> Value} {n : Nat} : (fm f n).length = n := by simp [fm]
theorem fm_get {f : Nat -> Value} {n q : Nat} (h : q < n) : (fm f n)[q]? = some (f q) := by
 unfold fm;rw [List.getElem?_map, List.getElem?_range h]; rfl
theorem fm_none {f : Nat -> Value} {n q : Nat} (h : n <= q) : (fm f n)[q]? = none := List.getElem?_eq_none (by rw [fm_len]; exact h)
theorem seg_of {l : List Value} : ∀ {r : List Value} {i : Nat}, (∀ t, t < r.length -> l[i + t]? = r[t]?) -> segL l i r.length = some r
 | [], _, _ => rfl
 | v :: r, i, h => by
  have h0 := h 0 (by simp);have h1 := seg_of (l := l) (r := r) (i := i + 1) (fun t ht => by
   have := h (t + 1) (by simp; omega);simpa [Nat.add_assoc, Nat.add_comm 1 t] using this)
  rw [Nat.add_zero] at h0;show segL l i (r.length + 1) = _;unfold segL;rw [h0, h1]; rfl
def limC (ts : List (List Int)) : List Value := fm (fun q => .int .i64 ((ts.getD (q / 4) []).getD (q % 4) 0)) (ts.length * 4)
theorem limC_len {ts : List (List Int)} : (limC ts).length = ts.length * 4 := fm_len
theorem limC_seg {ts : List (List Int)} {k : Nat} {y0 y1 y2 y3 : Int} (h : ts[k]? = some [y0, y1, y2, y3]) : segL (limC ts) (0 + k * 4) 4 = some [.int .i64 y0, .int .i64 y1, .int .i64 y2, .int .i64 y3] := by
 obtain ⟨hk, _⟩ := List.getElem?_eq_some_iff.1 h;have e : ts.getD k [] = [y0, y1, y2, y3] := by rw [List.getD_eq_getElem?_getD, h]; rfl
 have := seg_of (l := limC ts) (r := [.int .i64 y0, .int .i64 y1, .int .i64 y2, .int .i64 y3]) (i := 0 + k * 4) (fun t ht => by
  have ht' : t < 4 := ht;unfold limC;rw [fm_get (by omega), show (0 + k * 4 + t) / 4 = k by omega, show (0 + k * 4 + t) % 4 = t by omega, e]
  match t, ht' with
  | 0, _ => rfl
  | 1, _ => rfl
  | 2, _ => rfl
  | 3, _ => rfl)
 exact this
theorem limC_app {a b : List (List Int)} : limC (a ++ b) = limC a ++ limC b := by
 refine List.ext_getElem? (fun q => ?_);by_cases h : q < a.length * 4
 ·rw [List.getElem?_append_left (by rw [limC_len]; exact h)]
  unfold limC;rw [fm_get (by rw [List.length_append]; omega), fm_get h, List.getD_eq_getElem?_getD (l := a ++ b), List.getElem?_append_left (by omega), <- List.getD_eq_getElem?_getD]
 ·rw [List.getElem?_append_right (by rw [limC_len]; omega), limC_len]
  unfold limC;by_cases h2 : q < (a ++ b).length * 4
  ·rw [fm_get h2]
   rw [List.length_append] at h2;rw [fm_get (by omega), List.getD_eq_getElem?_getD (l := a ++ b), List.getElem?_append_right (by omega), <- List.getD_eq_getElem?_getD, show (q - a.length * 4) / 4 = q / 4 - a.length by omega, show (q - a.length * 4) % 4 = q % 4 by omega]
  ·rw [fm_none (by omega)]
   rw [List.length_append] at h2;rw [fm_none (by omega)]
theorem rows_own {s : St} {b e : Nat} {op : Bool} {M : Nat} {ts : List (List Int)} (hg : Lg M ts) (hM : M <= 64) (hn : ts.length < 140737488355328) (hf : ∀ r ∈ ts, r.length = 4 /\ ∀ x ∈ r, -9223372036854775808 <= x /\ x < 9223372036854775808) (h : Obj s b e op (limC ts)) : RowsE s 4 (some ⟨b, 0, none⟩) ts := by
 refine ⟨fun c hc => by cases hc; rfl, fun _ => ⟨b, 0, rfl⟩, fun c o hc k r hr => ?_, fun r hr => (hf r hr).1, fun r hr => (hf r hr).2, hn⟩;cases hc;obtain ⟨hk, e1⟩ := List.getElem?_eq_some_iff.1 hr;obtain ⟨_, _, _, _, _, y3, e2⟩ := hg k hk;rw [hr] at e2;cases e2;have := limC_seg hr;have h2 := (segL_eq this).2;exact h.ats (fun j hj => h2 j hj)
theorem a_eqN {P : Program} {C : Nat -> (CF -> Bool) -> Bool} {X : FuncId -> List Value -> St -> (Value -> St -> Bool) -> Bool} {s0 : St} {n nt t : Nat} {env : List (Nat × Value)} {A : List Ob} {R : Value -> List Ob -> Prop} {x y : Ev.X} {a : Option Addr} {m c : Nat} (hx : xv env x = some (.slice a m c)) (hy : xv env y = some (.slice none 0 0)) (hn : evBin P .eql t 1 (.slice none 0 0) (.slice none 0 0) = some (.bool true)) (h0 : a = none -> m = 0 /\ c = 0) (h1 : a = none -> R (.bool true) A) (h2 : ¬ a = none -> R (.bool false) A) : OpA P C X s0 n nt (.bin .eql t 1 x y) env A R := by
 cases a with
 | none =>
  obtain ⟨rfl, rfl⟩ := h0 rfl;exact a_bin hx hy hn (h1 rfl)
 | some a => exact a_bin hx hy rfl (h2 (by simp))
theorem endcA {s0 : St} {env : List (Nat × Value)} {A A' : List Ob} {a b o m e : Nat} {op : Bool} {l r : List Value} {Q : Value -> List Ob -> Prop} (ha : look env a = some (.pointer (some ⟨b, o, none⟩))) (h0 : m ≠ 0) (hs : A'.Sublist A) (ho : Own A b e op l) (hv : segL l o m = some r) (hq : Q (.agg ⟨r⟩) A') : EndA s0 [.cell a (some m)] Q .ret env [] A :=
 ⟨rfl, [.agg ⟨r⟩], A', ⟨b, o, r, [], rfl, ha, h0, ⟨e, op, l, ho, hv⟩, rfl⟩, hs, hq⟩
theorem src_ints {s0 : St} {A : List Ob} {a : Option Addr} {l : List Int} {c : Nat} (h : IntsE s0 a l) (hl : l ≠ []) : Src s0 A 1 l.length (ints l) (.slice a l.length c) := by
 obtain ⟨b, o, rfl⟩ := h.addr hl;exact ⟨b, o, c, rfl, by rw [ints_len, Nat.mul_one], fun e => hl (by cases l with | nil => rfl | cons x l => cases e), .inr (h.cells b o rfl)⟩
def TlOk (TT : Nat) (a : Option Addr) (ts : List (List Int)) (TL : List Ob) : Prop := (ts = [] /\ TL = [] /\ ∀ b, a = some b -> b.spot = none) ∨ ∃ b op, a = some ⟨b, 0, none⟩ /\ TL = [.row b TT op (limC ts)]
theorem TlOk.rows {TT : Nat} {s0 s : St} {a : Option Addr} {M : Nat} {ts : List (List Int)} {TL A : List Ob} (h : TlOk TT a ts TL) (hA : TL.Sublist A) (hs : Hld s0 A s) (hg : Lg M ts) (hM : M <= 64) (hn : ts.length < 140737488355328) (hf : ∀ r ∈ ts, r.length = 4 /\ ∀ x ∈ r, -9223372036854775808 <= x /\ x < 9223372036854775808) : RowsE s 4 a ts := by
 rcases h with ⟨h1, _, h3⟩ | ⟨b, op, h1, h2⟩
 ·subst h1
  exact ⟨h3, fun e => absurd rfl e, fun b o hb i r hr => (by simp at hr), fun r hr => (by cases hr), fun r hr => (by cases hr), (by simp)⟩
 ·subst h1
  exact rows_own hg hM hn hf ((hs.sub hA).own (by rw [h2]; exact .here))
theorem tl_fit {s : St} {a : Option Addr} {ls : List (List Int)} {M : Nat} (h : RowsE s 4 a ls) (hM : M <= 64) : ∀ r ∈ ls ++ W1 M, r.length = 4 /\ ∀ x ∈ r, -9223372036854775808 <= x /\ x < 9223372036854775808 := fun r hr => by
 rcases List.mem_append.1 hr with q | q
 ·exact ⟨h.width r q, h.fit r q⟩
 ·have key : ∀ m, m <= 64 -> ∀ r ∈ W1 m, r.length = 4 /\ ∀ x ∈ r, -9223372036854775808 <= x /\ x < 9223372036854775808 := by
   intro m
   induction m with
   | zero => intro _ r hr; cases hr
   | succ m ih =>
    intro hm r hr;rcases List.mem_append.1 hr with q | q
    ·exact ih (by omega) r q
    ·simp only [List.mem_cons, List.not_mem_nil, or_false] at q
     rcases q with rfl | rfl
     ·exact ⟨rfl, fun x hx => by simp only [List.mem_cons, List.not_mem_nil, or_false] at hx; omega⟩
     ·exact ⟨rfl, fun x hx => by simp only [List.mem_cons, List.not_mem_nil, or_false] at hx; omega⟩
  exact key M hM r q
section
variable {X : FuncId -> List Value -> St -> (Value -> St -> Bool) -> Bool}
theorem CloneI_s (n : Nat) (aw : Option Addr) (cw : Nat) (w : List Int) (s : St) (hs : Wf s) (hW : IntsE s aw w) (hne : w ≠ []) (h64 : w.length <= 100000) : Spec Try.prog (tabK tabw) X (n + 100) 53 [.slice aw w.length cw] s (fun v A => ∃ b, v = .slice (some ⟨b, 0, none⟩) w.length OPEN /\ A = [.row b 3 true (ints w)]) := by
 refine enter bw53_at rfl hs ?_;unfold bw53;have hlen := hW.len;obtain ⟨qw, ow, hqw⟩ := hW.addr hne;refine rS (kM J J (Q0 (rQ (rS (kM J J (kO J (a_eqN J J (by kernel_rfl) (fun q => by rw [q] at hqw; cases hqw) (fun h1 => ?_) (fun h1 => ?_))))))))
 ·rw [h1] at hqw; cases hqw
 ·refine Q0 (Z0 J (Q1 (W0 (rS (kO J (a_lit J J J (fun b2 => (kM J J (kO J (a_appz J (fun b hb => by cases hb; rfl) J (src_ints hW hne) (fun e => hne (List.eq_nil_of_length_eq_zero e)) (by omega) (by omega) (fun b3 => (kM J J (Q0 (Y3 ?_))))))))))))))
  exact end1A J (.q (.cons _ .slnil)) ⟨_, rfl, rfl⟩
end
def Rv3 (σ τ : Nat -> Cm) (m i : Nat) : Prop := ∀ t, t <= m -> τ t = if t < i ∨ m < t + i then σ (m - t) else σ t
theorem Rv3.step {σ τ : Nat -> Cm} {m i : Nat} (h : Rv3 σ τ m i) (hi : i < m - i) : Rv3 σ (W2 (W2 τ i (τ (m - i))) (m - i) (τ i)) m (i + 1) := fun t ht => by
 have e1 := h i (by omega);have e2 := h (m - i) (by omega);have e3 := h t ht;rw [if_neg (by omega)] at e1 e2;by_cases q1 : t = m - i
 ·subst q1; rw [U2, if_pos (by omega), e1]; congr 1; omega
 ·rw [V0 q1]
  by_cases q2 : t = i
  ·subst q2; rw [U2, if_pos (by omega), e2]
  ·rw [V0 q2, e3]
   by_cases q3 : t < i ∨ m < t + i
   ·rw [if_pos q3, if_pos (by omega)]
   ·rw [if_neg q3, if_neg (by omega)]
section
variable {X : FuncId -> List Value -> St -> (Value -> St -> Bool) -> Bool}
end
theorem lw_row {ls : List (List Int)} {k : Nat} {y0 y1 y2 y3 : Int} (h : ls[k]? = some [y0, y1, y2, y3]) : lw ls k = y2 := by
 unfold lw;rw [show ls.getD k [] = [y0, y1, y2, y3] from by rw [List.getD_eq_getElem?_getD, h]; rfl]; rfl
section
variable {X : FuncId -> List Value -> St -> (Value -> St -> Bool) -> Bool}
end
def dg (n i k : Nat) : List Int := rowT (fun _ j => if j < k /\ ¬ j = i then 1000000000 else 0) n i
def T0 : Nat -> Nat -> Int := fun i k => if i = k then 0 else 1000000000
def limT (ls : List (List Int)) : Nat -> Nat -> Nat -> Int
 | 0 => T0
 | k + 1 => updT (limT ls k) ((ls.getD k []).getD 0 0).toNat ((ls.getD k []).getD 1 0).toNat (min (limT ls k ((ls.getD k []).getD 0 0).toNat ((ls.getD k []).getD 1 0).toNat) ((ls.getD k []).getD 2 0))
def stp (T : Nat -> Nat -> Int) (m i k : Nat) : Nat -> Nat -> Int :=
 if ¬ T i m = 1000000000 /\ ¬ T m k = 1000000000 then updT T i k (max (min (T i k) (T i m + T m k)) (-2560000)) else T
def kT (T : Nat -> Nat -> Int) (m i : Nat) : Nat -> Nat -> Nat -> Int
 | 0 => T
 | k + 1 => stp (kT T m i k) m i k
def iT (T : Nat -> Nat -> Int) (N m : Nat) : Nat -> Nat -> Nat -> Int
 | 0 => T
 | i + 1 => kT (iT T N m i) m i N
def mT (T : Nat -> Nat -> Int) (N : Nat) : Nat -> Nat -> Nat -> Int
 | 0 => T
 | m + 1 => iT (mT T N m) N m N
def wm (ls : List (List Int)) (N m : Nat) : Nat -> Nat -> Int := mT (limT ls ls.length) N m
inductive Pth (ls : List (List Int)) : Nat -> List Nat -> Nat -> Int -> Prop where
 | one {i : Nat} (hi : i < ls.length) : Pth ls (la ls i) [] (lb ls i) (lw ls i)
 | cons {i : Nat} {L : List Nat} {k : Nat} {w : Int} (hi : i < ls.length) (h : Pth ls (lb ls i) L k w) : Pth ls (la ls i) (lb ls i :: L) k (lw ls i + w)
theorem Pth.app {ls : List (List Int)} {a v b : Nat} {L L' : List Nat} {w w' : Int} (h : Pth ls a L v w) (h' : Pth ls v L' b w') : Pth ls a (L ++ v :: L') b (w + w') := by
 induction h with
 | one hi => exact .cons hi h'
 | cons hi _ ih => rw [Int.add_assoc]; exact .cons hi (ih h')
theorem Pth.split {ls : List (List Int)} {v b : Nat} {L' : List Nat} : ∀ {L : List Nat} {a : Nat} {w : Int}, Pth ls a (L ++ v :: L') b w -> ∃ w1 w2, Pth ls a L v w1 /\ Pth ls v L' b w2 /\ w = w1 + w2
 | [], a, w, h => by
  have h' : Pth ls a (v :: L') b w := h;cases h' with
  | cons hi hq => exact ⟨_, _, .one hi, hq, rfl⟩
 | u :: L, a, w, h => by
  have h' : Pth ls a (u :: (L ++ v :: L')) b w := h;cases h' with
  | cons hi hq =>
   obtain ⟨w1, w2, h1, h2, h3⟩ := Pth.split hq;exact ⟨_, w2, .cons hi h1, h2, by omega⟩
theorem lw_bd {ls : List (List Int)} {M i : Nat} (hl : lmB (M : Int) ls = true) (hi : i < ls.length) : -20000 <= lw ls i /\ lw ls i <= 20000 := by
 obtain ⟨u0, u1, y2, y3, e, hc⟩ := lm_row hl hi;have e3 : ls.getD i [] = [(u0 : Int), (u1 : Int), y2, y3] := by rw [List.getD_eq_getElem?_getD, e]; rfl
 have e2 : lw ls i = y2 := by unfold lw; rw [e3]; rfl
 omega
theorem Pth.bd {ls : List (List Int)} {M a b : Nat} {L : List Nat} {w : Int} (hl : lmB (M : Int) ls = true) (h : Pth ls a L b w) : -20000 * ((L.length : Int) + 1) <= w /\ w <= 20000 * ((L.length : Int) + 1) := by
 induction h with
 | one hi => have := lw_bd hl hi; show _ <= _ /\ _ <= 20000 * (((0 : Nat) : Int) + 1); exact ⟨by show -20000 * (((0 : Nat) : Int) + 1) <= _; omega, by omega⟩
 | cons hi _ ih => have := lw_bd hl hi; rw [List.length_cons]; omega
theorem Pth.lt {ls : List (List Int)} {M a b : Nat} {L : List Nat} {w : Int} (hl : lmB (M : Int) ls = true) (h : Pth ls a L b w) : a < M + 1 /\ b < M + 1 /\ ∀ v ∈ L, v < M + 1 := by
 induction h with
 | one hi => have hL := lim_of hl hi; exact ⟨hL.ha, hL.hb, fun v hv => absurd hv (List.not_mem_nil)⟩
 | cons hi _ ih =>
  have hL := lim_of hl hi;refine ⟨hL.ha, ih.2.1, fun v hv => ?_⟩;rcases List.mem_cons.1 hv with rfl | hv
  ·exact hL.hb
  ·exact ih.2.2 v hv
theorem Pth.wk {ls : List (List Int)} {f : Nat} {a b : Nat} {L : List Nat} {w w0 : Int} (h0 : Wk ls f a w0) (h : Pth ls a L b w) : Wk ls f b (w0 + w) := by
 induction h generalizing w0 with
 | one hi => exact .step hi h0
 | cons hi _ ih => rw [<- Int.add_assoc]; exact ih (.step hi h0)
theorem Pth.pot {ls : List (List Int)} {y : Nat -> Int} (hy : ∀ i, i < ls.length -> y (lb ls i) <= y (la ls i) + lw ls i) {a b : Nat} {L : List Nat} {w : Int} (h : Pth ls a L b w) : y b <= y a + w := by
 have := (h.wk (.nil (f := a))).pot hy;omega
theorem twice : ∀ {L : List Nat}, ¬ L.Nodup -> ∃ v A B C, L = A ++ v :: (B ++ v :: C)
 | [], h => absurd List.nodup_nil h
 | u :: L, h => by
  by_cases hu : u ∈ L
  ·obtain ⟨B, C, e⟩ := List.append_of_mem hu
   exact ⟨u, [], B, C, by rw [e]; rfl⟩
  ·have : ¬ L.Nodup := fun q => h (List.nodup_cons.2 ⟨hu, q⟩)
   obtain ⟨v, A, B, C, e⟩ := twice this;exact ⟨v, u :: A, B, C, by rw [e]; rfl⟩
theorem Pth.short {ls : List (List Int)} {y : Nat -> Int} (hy : ∀ i, i < ls.length -> y (lb ls i) <= y (la ls i) + lw ls i) {a b : Nat} : ∀ {L : List Nat} {w : Int}, Pth ls a L b w -> ∃ L' w', L'.Nodup /\ Pth ls a L' b w' /\ w' <= w := by
 intro L
 induction hn : L.length using Nat.strongRecOn generalizing L with
 | ind n ih =>
  intro w h;by_cases q : L.Nodup
  ·exact ⟨L, w, q, h, Int.le_refl _⟩
  ·obtain ⟨v, A, B, C, rfl⟩ := twice q
   obtain ⟨w1, w2, h1, h2, e⟩ := h.split;obtain ⟨w3, w4, h3, h4, e2⟩ := h2.split;have h5 := h3.pot hy;obtain ⟨L', w', k1, k2, k3⟩ := ih (A ++ v :: C).length (by subst hn; simp; omega) J (h1.app h4);exact ⟨L', w', k1, k2, by omega⟩
theorem nodup_len {L : List Nat} {N : Nat} (h : L.Nodup) (hL : ∀ v ∈ L, v < N) : L.length <= N := by
 refine Classical.byContradiction (fun q => ?_);obtain ⟨i, j, h1, h2, h3⟩ := pigeon N (fun i => L.getD i 0) (fun i hi => by
  show L.getD i 0 < N;rw [List.getD_eq_getElem?_getD, List.getElem?_eq_getElem (show i < L.length by omega)];exact hL _ (List.getElem_mem _))
 have h3' : L.getD i 0 = L.getD j 0 := h3;rw [List.getD_eq_getElem?_getD, List.getD_eq_getElem?_getD, List.getElem?_eq_getElem (show i < L.length by omega), List.getElem?_eq_getElem (show j < L.length by omega)] at h3';have h4 : L[i]'(by omega) = L[j]'(by omega) := h3';have := (List.getElem_inj h).1 h4;omega
section
variable {X : FuncId -> List Value -> St -> (Value -> St -> Bool) -> Bool}
end
def RL (ls : List (List Int)) (t : Nat -> Int) : List (List Int) := ls ++ (List.range ls.length).map (fun i => if 0 < t i then [((lb ls i : Nat) : Int), ((la ls i : Nat) : Int), -(lw ls i), 0] else [((la ls i : Nat) : Int), ((lb ls i : Nat) : Int), lw ls i, 0])
theorem rl_len {ls : List (List Int)} {t : Nat -> Int} : (RL ls t).length = ls.length + ls.length := by simp [RL]
theorem rl_at {ls : List (List Int)} {t : Nat -> Int} {i : Nat} (hi : i < ls.length) : (RL ls t)[ls.length + i]? = some (if 0 < t i then [((lb ls i : Nat) : Int), ((la ls i : Nat) : Int), -(lw ls i), 0] else [((la ls i : Nat) : Int), ((lb ls i : Nat) : Int), lw ls i, 0]) := by
 unfold RL;rw [List.getElem?_append_right (by omega), show ls.length + i - ls.length = i by omega, List.getElem?_map, List.getElem?_range hi]; rfl
theorem rl_bck {ls : List (List Int)} {t : Nat -> Int} {i : Nat} (hi : i < ls.length) (ht : 0 < t i) : la (RL ls t) (ls.length + i) = lb ls i /\ lb (RL ls t) (ls.length + i) = la ls i /\ lw (RL ls t) (ls.length + i) = -(lw ls i) := by
 have h := rl_at (t := t) hi;rw [if_pos ht] at h;exact fld h
theorem fwd_pth {ls : List (List Int)} {t : Nat -> Int} {i : Nat} (hi : i < ls.length) : Pth (RL ls t) (la ls i) [] (lb ls i) (lw ls i) := by
 have h := Pth.one (ls := RL ls t) (i := i) (by rw [rl_len]; omega);obtain ⟨e1, e2, e3⟩ := app_fld (ls := ls) (us := (List.range ls.length).map (fun i => if 0 < t i then [((lb ls i : Nat) : Int), ((la ls i : Nat) : Int), -(lw ls i), 0] else [((la ls i : Nat) : Int), ((lb ls i : Nat) : Int), lw ls i, 0])) hi;have e1 : la (RL ls t) i = la ls i := e1;have e2 : lb (RL ls t) i = lb ls i := e2;have e3 : lw (RL ls t) i = lw ls i := e3
 rwa [e1, e2, e3] at h
theorem bck_pth {ls : List (List Int)} {t : Nat -> Int} {i : Nat} (hi : i < ls.length) (ht : 0 < t i) : Pth (RL ls t) (lb ls i) [] (la ls i) (-(lw ls i)) := by
 have h := Pth.one (ls := RL ls t) (i := ls.length + i) (by rw [rl_len]; omega);obtain ⟨e1, e2, e3⟩ := rl_bck hi ht
 rwa [e1, e2, e3] at h
theorem walk_short {R : List (List Int)} {y : Nat -> Int} {N : Nat} (hy : ∀ i, i < R.length -> y (lb R i) <= y (la R i) + lw R i) (hN : ∀ {a L b w}, Pth R a L b w -> a < N /\ b < N /\ ∀ v ∈ L, v < N) {a b : Nat} {L : List Nat} {w : Int} (h : Pth R a L b w) : 0 <= w ∨ ∃ a' L' w', L'.length + 2 <= N /\ Pth R a' L' b w' /\ w' <= w := by
 obtain ⟨L1, w1, n1, h1, e1⟩ := h.short hy;obtain ⟨L2, w2, n2, h2, e2, a2⟩ : ∃ L2 w2, L2.Nodup /\ Pth R a L2 b w2 /\ w2 <= w1 /\ ¬ a ∈ L2 := by
  by_cases q : a ∈ L1
  ·obtain ⟨A, B, e⟩ := List.append_of_mem q
   subst e;obtain ⟨u1, u2, k1, k2, k3⟩ := h1.split;have k4 := k1.pot hy;have nd := List.nodup_cons.1 (List.nodup_append.1 n1).2.1;exact ⟨B, u2, nd.2, k2, by omega, nd.1⟩
  ·exact ⟨L1, w1, n1, h1, Int.le_refl _, q⟩
 obtain ⟨L3, w3, n3, h3, e3, a3, b3⟩ : ∃ L3 w3, L3.Nodup /\ Pth R a L3 b w3 /\ w3 <= w2 /\ (¬ a ∈ L3) /\ ¬ b ∈ L3 := by
  by_cases q : b ∈ L2
  ·obtain ⟨A, B, e⟩ := List.append_of_mem q
   subst e;obtain ⟨u1, u2, k1, k2, k3⟩ := h2.split;have k4 := k2.pot hy;have nd := List.nodup_append.1 n2;exact ⟨A, u1, nd.1, k1, by omega, fun z => a2 (List.mem_append_left _ z), fun z => nd.2.2 b z b (List.mem_cons_self ..) rfl⟩
  ·exact ⟨L2, w2, n2, h2, Int.le_refl _, a2, q⟩
 by_cases q : a = b
 ·subst q
  have := h3.pot hy;exact .inl (by omega)
 ·obtain ⟨t1, t2, t3⟩ := hN h3
  have nd : (a :: b :: L3).Nodup := List.nodup_cons.2 ⟨fun z => by
   rcases List.mem_cons.1 z with z | z
   ·exact q z
   ·exact a3 z, List.nodup_cons.2 ⟨b3, n3⟩⟩
  have := nodup_len (N := N) nd (fun v hv => by
   rcases List.mem_cons.1 hv with rfl | hv
   ·exact t1
   ·rcases List.mem_cons.1 hv with rfl | hv
    ·exact t2
    ·exact t3 v hv)
  exact .inr ⟨a, L3, w3, this, h3, by omega⟩
theorem le_walk {R : List (List Int)} {x : Nat -> Nat -> Int} (cov : ∀ r e, e < R.length -> x (r + 1) (lb R e) <= x r (la R e) + lw R e) {a b : Nat} {L : List Nat} {w : Int} (h : Pth R a L b w) : ∀ r, x (r + (L.length + 1)) b <= x r a + w := by
 induction h with
 | one hi => intro r; exact cov r _ hi
 | cons hi _ ih =>
  intro r;have h1 := ih (r + 1);have h2 := cov r _ hi;rw [List.length_cons, show ∀ k, r + (k + 1 + 1) = r + 1 + (k + 1) from fun k => by omega];omega
theorem settled {R : List (List Int)} {y : Nat -> Int} {M : Nat} {x : Nat -> Nat -> Int} (hy : ∀ i, i < R.length -> y (lb R i) <= y (la R i) + lw R i) (hN : ∀ {a L b w}, Pth R a L b w -> a < M + 1 /\ b < M + 1 /\ ∀ v ∈ L, v < M + 1)
 (h0 : ∀ v, x 0 v = 0) (mono : ∀ r v, v < M + 1 -> x (r + 1) v <= x r v) (cov : ∀ r e, e < R.length -> x (r + 1) (lb R e) <= x r (la R e) + lw R e) (att : ∀ r v, v < M + 1 -> x r v = 0 ∨ ∃ a L, Pth R a L v (x r v)) : ∀ v, v < M + 1 -> x (M + 1) v = x M v := fun v hv => by
 have down : ∀ d r, x (r + d) v <= x r v := by
  intro d
  induction d with
  | zero => intro r; exact Int.le_refl _
  | succ d ih => intro r; have := ih r; have := mono (r + d) v hv; rw [show r + (d + 1) = r + d + 1 by omega]; omega
 have hm := mono M v hv;have hz : x M v <= 0 := by have := down M 0; rw [h0, Nat.zero_add] at this; exact this
 rcases att (M + 1) v hv with q | ⟨a, L, h⟩
 ·omega
 ·rcases walk_short hy hN h with q | ⟨a', L', w', l1, l2, l3⟩
  ·omega
  ·have h1 := le_walk cov l2 0
   rw [h0, Nat.zero_add] at h1;have h2 := down (M - (L'.length + 1)) (L'.length + 1);rw [show L'.length + 1 + (M - (L'.length + 1)) = M by omega] at h2;omega
structure Fb where
 x : Nat -> Int
 c : Nat -> Cm
 l : Int
def upB (s : Fb) (v i : Nat) (bk : Bool) (to : Nat) (ms : Int) : Fb := if s.x v + ms < s.x to then ⟨W2 s.x to (s.x v + ms), W2 s.c to ⟨i, bk, (v : Int), to, ms⟩, (to : Int)⟩ else s
def rlB (ls : List (List Int)) (t : Nat -> Int) (s : Fb) (v i : Nat) : Fb := if lb ls i = v then (if t i = 0 then s else upB s v i true (la ls i) (-(lw ls i))) else upB s v i false (lb ls i) (lw ls i)
def rwB (ls : List (List Int)) (t : Nat -> Int) (s : Fb) (v : Nat) : Nat -> Fb
 | 0 => s
 | q + 1 => rlB ls t (rwB ls t s v q) v ((nl ls ls.length v).getD q 0).toNat
def lwB (ls : List (List Int)) (t : Nat -> Int) (s : Fb) : Nat -> Fb
 | 0 => s
 | v + 1 => rwB ls t (lwB ls t s v) v (nl ls ls.length v).length
def stB (ls : List (List Int)) (t : Nat -> Int) (N : Nat) : Nat -> Fb
 | 0 => ⟨fun _ => 0, fun _ => ⟨0, false, 0, 0, 0⟩, -1⟩
 | r + 1 => lwB ls t ⟨(stB ls t N r).x, (stB ls t N r).c, -1⟩ N
structure Rb (ls : List (List Int)) (t : Nat -> Int) (M : Nat) (x0 : Nat -> Int) (s : Fb) : Prop where
 le : ∀ v, v < M + 1 -> s.x v <= x0 v
 att : ∀ v, v < M + 1 -> s.x v = 0 ∨ ∃ a L, Pth (RL ls t) a L v (s.x v)
 ch : (s.l = -1 /\ ∀ v, v < M + 1 -> s.x v = x0 v) ∨ ∃ b : Nat, b < M + 1 /\ s.l = (b : Int) /\ s.x b < x0 b
theorem Rb.up {ls : List (List Int)} {t : Nat -> Int} {M : Nat} {x0 : Nat -> Int} {s : Fb} {v i to : Nat} {bk : Bool} {ms : Int} (h : Rb ls t M x0 s) (hv : v < M + 1) (hto : to < M + 1) (hp : Pth (RL ls t) v [] to ms) : Rb ls t M x0 (upB s v i bk to ms) /\ (upB s v i bk to ms).x to <= s.x v + ms /\ ∀ u, (upB s v i bk to ms).x u <= s.x u := by
 unfold upB;by_cases c : s.x v + ms < s.x to
 ·rw [if_pos c]
  have hle := h.le to hto;refine ⟨⟨fun u hu => ?_, fun u hu => ?_, .inr ⟨to, hto, rfl, ?_⟩⟩, ?_, fun u => ?_⟩
  ·show W2 s.x to _ u <= _
   by_cases e : u = to
   ·subst e; rw [U2]; omega
   ·rw [V0 e]; exact h.le u hu
  ·show W2 s.x to _ u = 0 ∨ ∃ a L, Pth (RL ls t) a L u (W2 s.x to _ u)
   by_cases e : u = to
   ·subst e
    rw [U2];rcases h.att v hv with q | ⟨a, L, q⟩
    ·rw [q, Int.zero_add]; exact .inr ⟨v, [], hp⟩
    ·exact .inr ⟨a, _, q.app hp⟩
   ·rw [V0 e]; exact h.att u hu
  ·show W2 s.x to _ to < _
   rw [U2]; omega
  ·show W2 s.x to _ to <= _
   rw [U2]; exact Int.le_refl _
  ·show W2 s.x to _ u <= _
   by_cases e : u = to
   ·subst e; rw [U2]; omega
   ·rw [V0 e]; exact Int.le_refl _
 ·rw [if_neg c]
  exact ⟨h, by omega, fun u => Int.le_refl _⟩
def Cv (ls : List (List Int)) (t x0 x : Nat -> Int) (v i : Nat) : Prop := (la ls i = v -> x (lb ls i) <= x0 v + lw ls i) /\ (lb ls i = v -> 0 < t i -> x (la ls i) <= x0 v + -(lw ls i))
theorem Cv.mono {ls : List (List Int)} {t x0 x x' : Nat -> Int} {v i : Nat} (h : Cv ls t x0 x v i) (hx : ∀ u, x' u <= x u) : Cv ls t x0 x' v i := ⟨fun e => by have := h.1 e; have := hx (lb ls i); omega, fun e e2 => by have := h.2 e e2; have := hx (la ls i); omega⟩
theorem Rb.rl {ls : List (List Int)} {t : Nat -> Int} {M : Nat} {x0 : Nat -> Int} {s : Fb} {v i : Nat} (hg : Lg M ls) (hn : ∀ i, i < ls.length -> 0 <= t i) (h : Rb ls t M x0 s) (hv : v < M + 1) (hi : i < ls.length) (hnm : la ls i = v ∨ lb ls i = v) : Rb ls t M x0 (rlB ls t s v i) /\ Cv ls t x0 (rlB ls t s v i).x v i /\ ∀ u, (rlB ls t s v i).x u <= s.x u := by
 obtain ⟨g1, g2, g3, _⟩ := hg i hi;have hle := h.le v hv;unfold rlB;by_cases c : lb ls i = v
 ·rw [if_pos c]
  by_cases c2 : t i = 0
  ·rw [if_pos c2]
   exact ⟨h, ⟨fun e => absurd (e.trans c.symm) g3, fun _ e => by omega⟩, fun u => Int.le_refl _⟩
  ·rw [if_neg c2]
   have c3 := hn i hi;have hp := bck_pth (ls := ls) (t := t) hi (by omega);rw [c] at hp;obtain ⟨u1, u2, u3⟩ := h.up (i := i) (bk := true) hv g1 hp;exact ⟨u1, ⟨fun e => absurd (e.trans c.symm) g3, fun _ _ => by omega⟩, u3⟩
 ·rw [if_neg c]
  have ha := hnm.resolve_right c;have hp := fwd_pth (ls := ls) (t := t) hi;rw [ha] at hp;obtain ⟨u1, u2, u3⟩ := h.up (i := i) (bk := false) hv g2 hp;exact ⟨u1, ⟨fun _ => by omega, fun e => absurd e c⟩, u3⟩
theorem Rb.rw {ls : List (List Int)} {t : Nat -> Int} {M : Nat} {x0 : Nat -> Int} {s : Fb} {v : Nat} (hg : Lg M ls) (hn : ∀ i, i < ls.length -> 0 <= t i) (h : Rb ls t M x0 s) (hv : v < M + 1) : ∀ {q : Nat}, q <= (nl ls ls.length v).length -> Rb ls t M x0 (rwB ls t s v q) /\ (∀ j, j < q -> ∀ i : Nat, i < ls.length -> (nl ls ls.length v).getD j 0 = (i : Int) -> Cv ls t x0 (rwB ls t s v q).x v i) /\ ∀ u, (rwB ls t s v q).x u <= s.x u
 | 0, _ => ⟨h, fun j hj => absurd hj (Nat.not_lt_zero j), fun u => Int.le_refl _⟩
 | q + 1, hq => by
  obtain ⟨i1, i2, i3⟩ := Rb.rw hg hn h hv (q := q) (by omega);obtain ⟨i, hi, hil, hnm⟩ := nl_mem (ls := ls) (v := v) (k := ls.length) (q := q) (by omega);obtain ⟨j1, j2, j3⟩ := i1.rl hg hn hv hil ((nam_ab hg hil).1 hnm);show Rb ls t M x0 (rlB ls t (rwB ls t s v q) v ((nl ls ls.length v).getD q 0).toNat) /\ (∀ j, j < q + 1 -> ∀ i : Nat, i < ls.length -> (nl ls ls.length v).getD j 0 = (i : Int) -> Cv ls t x0 (rlB ls t (rwB ls t s v q) v ((nl ls ls.length v).getD q 0).toNat).x v i) /\ ∀ u, (rlB ls t (rwB ls t s v q) v ((nl ls ls.length v).getD q 0).toNat).x u <= s.x u;rw [hi, Int.toNat_natCast];refine ⟨j1, fun j hj i' hi' e' => ?_, fun u => by have := i3 u; have := j3 u; omega⟩;by_cases e : j = q
  ·subst e
   have : i' = i := by rw [hi] at e'; omega
   subst this;exact j2
  ·exact (i2 j (by omega) i' hi' e').mono j3
theorem Rb.lw {ls : List (List Int)} {t : Nat -> Int} {M : Nat} {x0 : Nat -> Int} {s : Fb} (hg : Lg M ls) (hn : ∀ i, i < ls.length -> 0 <= t i) (h : Rb ls t M x0 s) : ∀ {v : Nat}, v <= M + 1 -> Rb ls t M x0 (lwB ls t s v) /\ ∀ u, u < v -> ∀ i, i < ls.length -> Cv ls t x0 (lwB ls t s v).x u i
 | 0, _ => ⟨h, fun u hu => absurd hu (Nat.not_lt_zero u)⟩
 | v + 1, hv => by
  obtain ⟨i1, i2⟩ := Rb.lw hg hn h (v := v) (by omega);obtain ⟨j1, j2, j3⟩ := i1.rw hg hn (show v < M + 1 by omega) (Nat.le_refl _);refine ⟨j1, fun u hu i hi => ?_⟩;by_cases e : u = v
  ·subst e
   by_cases hnm : la ls i = u ∨ lb ls i = u
   ·obtain ⟨j, k1, k2⟩ := nl_has (ls := ls) (v := u) (i := i) ((nam_ab hg hi).2 hnm) (k := ls.length) hi
    exact j2 j k1 i hi k2
   ·exact ⟨fun q => absurd (.inl q) hnm, fun q => absurd (.inr q) hnm⟩
  ·exact (i2 u (by omega) i hi).mono j3
theorem Rb.st {ls : List (List Int)} {t : Nat -> Int} {M : Nat} (hg : Lg M ls) (hn : ∀ i, i < ls.length -> 0 <= t i) : ∀ {r : Nat}, (∀ v, v < M + 1 -> (stB ls t (M + 1) r).x v = 0 ∨ ∃ a L, Pth (RL ls t) a L v ((stB ls t (M + 1) r).x v)) /\ Rb ls t M (stB ls t (M + 1) r).x ⟨(stB ls t (M + 1) r).x, (stB ls t (M + 1) r).c, -1⟩
 | 0 => ⟨fun v _ => .inl rfl, fun v _ => Int.le_refl _, fun v _ => .inl rfl, .inl ⟨rfl, fun v _ => rfl⟩⟩
 | r + 1 => by
  obtain ⟨_, i2⟩ := Rb.st hg hn (r := r);obtain ⟨j1, _⟩ := i2.lw hg hn (Nat.le_refl (M + 1));exact ⟨j1.att, fun v _ => Int.le_refl _, j1.att, .inl ⟨rfl, fun v _ => rfl⟩⟩
section
variable {X : FuncId -> List Value -> St -> (Value -> St -> Bool) -> Bool}
end
def Ngd (l w : List Int) (k : Nat) : Prop := w.length = l.length /\ ∀ i, i < k -> w.getD i 0 = -(l.getD i 0)
theorem Ngd.step {l w : List Int} {k : Nat} (h : Ngd l w k) (hk : k < l.length) : Ngd l (w.set k (-(l.getD k 0))) (k + 1) := by
 refine ⟨by rw [List.length_set]; exact h.1, fun i hi => ?_⟩;rw [getD_set (by rw [h.1]; exact hk)];by_cases q : k = i
 ·rw [if_pos q, q]
 ·rw [if_neg q]; exact h.2 i (by omega)
section
variable {X : FuncId -> List Value -> St -> (Value -> St -> Bool) -> Bool}
end
def pn (us : List (List Int)) (k : Nat) : Int := (us.getD k []).getD 1 0
def bef (us : List (List Int)) : Nat -> Int
 | 0 => -1
 | k + 1 => (us.getD k []).getD 0 0
def UkP (ls us : List (List Int)) (k : Nat) : Prop := ∀ j, j < k -> (bef us j + 1 <= (us.getD j []).getD 0 0 /\ (us.getD j []).getD 0 0 <= (ls.length : Int) - 1) /\ (1 <= pn us j /\ pn us j <= 3600000000000) /\ tot (pn us) (j + 1) <= 230400000000000
theorem UkP.nn {ls us : List (List Int)} {k : Nat} (h : UkP ls us k) : ∀ j, j < k -> 0 <= pn us j := fun j hj => by have := (h j hj).2.1; omega
section
variable {X : FuncId -> List Value -> St -> (Value -> St -> Bool) -> Bool}
end
theorem endDc1 {s0 : St} {env : List (Nat × Value)} {D : List Nat} {A : List Ob} {a b o m e : Nat} {op : Bool} {l r : List Value} {Q : Value -> List Ob -> Prop} {A2 : List Ob} (ha : look env a = some (.pointer (some ⟨b, o, none⟩))) (h0 : m ≠ 0) (hd : DelD A D A2) (ho : Own A2 b e op l) (hv : segL l o m = some r) (hq : Q (.agg ⟨r⟩) A2) : EndD s0 [.cell a (some m)] Q .ret env D A :=
 ⟨A2, [.agg ⟨r⟩], A2, hd, ⟨b, o, r, [], rfl, ha, h0, ⟨e, op, l, ho, hv⟩, rfl⟩, List.Sublist.refl _, hq⟩
def UlOk (TU : Nat) (a : Option Addr) (n c : Nat) (l : List Value) (UL : List Ob) : Prop := (a = none /\ n = 0 /\ c = 0 /\ l = [] /\ UL = []) ∨ ∃ b op, a = some ⟨b, 0, none⟩ /\ 0 < n /\ l.length = n * 2 /\ Tight op n c /\ UL = [.row b TU op l]
theorem UlOk.len {TU : Nat} {a : Option Addr} {n c : Nat} {l : List Value} {UL : List Ob} (h : UlOk TU a n c l UL) : l.length = n * 2 := by
 rcases h with ⟨_, rfl, _, rfl, _⟩ | ⟨_, _, _, _, hl, _⟩
 ·rfl
 ·exact hl
section
variable {X : FuncId -> List Value -> St -> (Value -> St -> Bool) -> Bool}
end
end Ev
end Go.Proofs.Ytoeklhdklcpllaa
