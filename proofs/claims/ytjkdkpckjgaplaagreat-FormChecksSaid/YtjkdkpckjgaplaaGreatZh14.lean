import Derived.Test.YtjkdkpckjgaplaaGreatZh11
import Derived.Test.YtjkdkpckjgaplaaGreatZh10
set_option linter.unusedVariables false
set_option linter.unusedSimpArgs false
namespace Go.Proofs.YtjkdkpckjgaplaaGreat
open Go Go.RowKit
namespace Ev
theorem RowsE.row4r {s : St} {a : Option Addr} {rs : List (List Int)} (h : RowsE s 4 a rs) {k : Nat} (hk : k < rs.length) : ∃ b o y0 y1 y2 y3, a = some ⟨b, o, none⟩ /\ rs[k]? = some [y0, y1, y2, y3] /\ oR s b (o + k * 4) [.int .i64 y0, .int .i64 y1, .int .i64 y2, .int .i64 y3] /\ I64 y0 /\ I64 y1 /\ I64 y2 /\ I64 y3 := by
 obtain ⟨b, o, r, h1, h2, h3, h4, h5⟩ := h.row hk;obtain ⟨y0, r1, rfl, g1⟩ := aU h3;obtain ⟨y1, r2, rfl, g2⟩ := aU g1;obtain ⟨y2, r3, rfl, g3⟩ := aU g2;obtain ⟨y3, r4, rfl, g4⟩ := aU g3;have : r4 = [] := List.eq_nil_of_length_eq_zero g4;subst this;exact ⟨b, o, y0, y1, y2, y3, h1, h2, h4, h5 y0 sM, h5 y1 sM, h5 y2 sM, h5 y3 sM⟩
def mV (m : Int) : List (List Int) -> Bool
 | [] => true
 | [y0, y1, y2, y3] :: rs => decide ((0 <= m /\ m <= 64) /\ (0 <= y0 /\ y0 <= m) /\ (0 <= y1 /\ y1 <= m) /\ ¬ y0 = y1 /\ (-20000 <= y2 /\ y2 <= 20000) /\ (1 <= y3 /\ y3 <= 99999)) && mV m rs
 | _ :: _ => false
theorem B1 (m : Int) {rs : List (List Int)} {k : Nat} {y0 y1 y2 y3 : Int} (h : rs[k]? = some [y0, y1, y2, y3]) (hi : mV m rs = mV m (rs.drop k)) : mV m rs = (decide ((0 <= m /\ m <= 64) /\ (0 <= y0 /\ y0 <= m) /\ (0 <= y1 /\ y1 <= m) /\ ¬ y0 = y1 /\ (-20000 <= y2 /\ y2 <= 20000) /\ (1 <= y3 /\ y3 <= 99999)) && mV m (rs.drop (k + 1))) := by
 obtain ⟨hk, he⟩ := List.getElem?_eq_some_iff.1 h;rw [hi, List.drop_eq_getElem_cons hk, he]; rfl
theorem vS {m : Int} {rs : List (List Int)} {k : Nat} {y0 y1 y2 y3 : Int} (h : rs[k]? = some [y0, y1, y2, y3]) (hi : mV m rs = mV m (rs.drop k)) (hn : ¬ ((0 <= m /\ m <= 64) /\ (0 <= y0 /\ y0 <= m) /\ (0 <= y1 /\ y1 <= m) /\ ¬ y0 = y1 /\ (-20000 <= y2 /\ y2 <= 20000) /\ (1 <= y3 /\ y3 <= 99999))) : mV m rs = false := by
 rw [B1 m h hi, decide_eq_false hn]; rfl
theorem If {m : Int} {rs : List (List Int)} {k : Nat} {y0 y1 y2 y3 : Int} (h : rs[k]? = some [y0, y1, y2, y3]) (hi : mV m rs = mV m (rs.drop k)) (hn : (0 <= m /\ m <= 64) /\ (0 <= y0 /\ y0 <= m) /\ (0 <= y1 /\ y1 <= m) /\ ¬ y0 = y1 /\ (-20000 <= y2 /\ y2 <= 20000) /\ (1 <= y3 /\ y3 <= 99999)) : mV m rs = mV m (rs.drop (k + 1)) := by
 rw [B1 m h hi, decide_eq_true hn]; rfl
theorem vT {m : Int} {rs : List (List Int)} {k : Nat} (hi : mV m rs = mV m (rs.drop k)) (hk : rs.length <= k) : mV m rs = true := by
 rw [hi, List.drop_eq_nil_of_le hk]; rfl
theorem C6 {m : Int} {y0 y1 y2 y3 : Int} : ∀ {rs : List (List Int)} {k : Nat}, mV m rs = true -> rs[k]? = some [y0, y1, y2, y3] -> (0 <= m /\ m <= 64) /\ (0 <= y0 /\ y0 <= m) /\ (0 <= y1 /\ y1 <= m) /\ ¬ y0 = y1 /\ (-20000 <= y2 /\ y2 <= 20000) /\ (1 <= y3 /\ y3 <= 99999)
 | [], _, _, h => by simp at h
 | r :: rs, 0, h1, h => by
  simp only [List.getElem?_cons_zero, Option.some.injEq] at h;subst h;have h2 : (decide ((0 <= m /\ m <= 64) /\ (0 <= y0 /\ y0 <= m) /\ (0 <= y1 /\ y1 <= m) /\ ¬ y0 = y1 /\ (-20000 <= y2 /\ y2 <= 20000) /\ (1 <= y3 /\ y3 <= 99999)) && mV m rs) = true := h1;rw [Bool.and_eq_true] at h2;exact of_decide_eq_true h2.1
 | r :: rs, k + 1, h1, h => by
  refine C6 (rs := rs) (k := k) ?_ (by simpa using h);unfold mV at h1;split at h1
  ·rename_i h2; cases h2
  ·rename_i h2; cases h2; rw [Bool.and_eq_true] at h1; exact h1.2
  ·cases h1
def kQ (T : Nat -> Nat -> Int) (n i : Nat) : List Int := (List.range n).map (T i)
theorem eF {T : Nat -> Nat -> Int} {n i : Nat} : (kQ T n i).length = n := by simp [kQ]
theorem fS {T : Nat -> Nat -> Int} {n i k : Nat} (h : k < n) : (kQ T n i).getD k 0 = T i k := by
 unfold kQ;rw [List.getD_eq_getElem?_getD, List.getElem?_map, List.getElem?_range h]; rfl
def lO (T : Nat -> Nat -> Int) (i k : Nat) (v : Int) : Nat -> Nat -> Int := fun a b => if a = i /\ b = k then v else T a b
theorem xY {T : Nat -> Nat -> Int} {n i k : Nat} {v : Int} : (kQ T n i).set k v = kQ (lO T i k v) n i := by
 unfold kQ;refine List.ext_getElem? (fun j => ?_);rw [List.getElem?_set, List.getElem?_map, List.getElem?_map];by_cases hj : k = j
 ·subst hj
  rw [if_pos rfl];by_cases hk : k < n
  ·rw [if_pos (by simpa using hk), List.getElem?_range hk]; simp [lO]
  ·rw [if_neg (by simpa using hk), List.getElem?_eq_none (by simp; omega)]; rfl
 ·rw [if_neg hj]
  by_cases hk : j < n
  ·rw [List.getElem?_range hk]; simp [lO]; intro h; omega
  ·rw [List.getElem?_eq_none (by simp; omega)]; rfl
theorem B2 {T : Nat -> Nat -> Int} {n i j k : Nat} {v : Int} (h : j ≠ i) : kQ (lO T i k v) n j = kQ T n j := by
 unfold kQ;refine List.map_congr_left (fun b _ => ?_);unfold lO;rw [if_neg (fun q => h q.1)]
def seg (B : Nat -> Nat) (n : Nat) (T : Nat -> Nat -> Int) : Nat -> List Ob
 | 0 => []
 | i + 1 => .row (B i) 3 false (ints (kQ T n i)) :: seg B n T i
theorem tY {B B' : Nat -> Nat} {n : Nat} {T T' : Nat -> Nat -> Int} : ∀ {i : Nat}, (∀ j, j < i -> B j = B' j) -> (∀ j, j < i -> kQ T n j = kQ T' n j) -> seg B n T i = seg B' n T' i
 | 0, _, _ => rfl
 | i + 1, h, k => by
  show _ :: _ = _ :: _;rw [h i oM, k i oM, tY (fun j hj => h j oM) (fun j hj => k j oM)]
theorem gR {B : Nat -> Nat} {n : Nat} {T : Nat -> Nat -> Int} {R : List Ob} : ∀ {i j : Nat}, j < i -> kI (seg B n T i ++ R) (B j) 3 false (ints (kQ T n j))
 | i + 1, j, h => by
  by_cases hj : j = i
  ·subst hj; exact .here
  ·exact .next (gR oM)
theorem AP {B : Nat -> Nat} {n : Nat} {T : Nat -> Nat -> Int} {R : List Ob} {k : Nat} {v : Int} : ∀ {i j : Nat}, j < i -> mL (seg B n T i ++ R) (B j) 3 false (ints (kQ T n j)) (ints ((kQ T n j).set k v)) (seg B n (lO T j k v) i ++ R)
 | i + 1, j, h => by
  rw [xY];by_cases hj : j = i
  ·subst hj
   have e : seg B n (lO T j k v) j = seg B n T j := tY (fun _ _ => rfl) (fun a ha => B2 oM);show mL (_ :: (_ ++ R)) _ _ _ _ _ (_ :: (seg B n (lO T j k v) j ++ R));rw [e];exact .here
  ·have := AP (B := B) (n := n) (T := T) (R := R) (k := k) (v := v) (i := i) (j := j) oM
   rw [xY] at this;show mL (_ :: (_ ++ R)) _ _ _ _ _ (.row (B i) 3 false (ints (kQ (lO T j k v) n i)) :: (_ ++ R));rw [B2 (fun q => hj q.symm)];exact .next this
def mB (B : Nat -> Nat) (n i m : Nat) : List Value := (List.range m).map fun j => if j < i then .slice (some ⟨B j, 0, none⟩) n n else .slice none 0 0
theorem Mh {B : Nat -> Nat} {n i m : Nat} : (mB B n i m).length = m := by simp [mB]
theorem fK {B : Nat -> Nat} {n i m j : Nat} (hj : j < i) (hm : j < m) : (mB B n i m)[0 + j * 1]? = some (.slice (some ⟨B j, 0, none⟩) n n) := by
 unfold mB;rw [Nat.zero_add, Nat.mul_one, List.getElem?_map, List.getElem?_range hm];simp [hj]
theorem Ig {B : Nat -> Nat} {n m : Nat} : List.replicate m (.slice none 0 0) = mB B n 0 m := by
 unfold mB;refine List.ext_getElem? (fun j => ?_);rw [List.getElem?_replicate, List.getElem?_map];by_cases h : j < m
 ·rw [if_pos h, List.getElem?_range h]; rfl
 ·rw [if_neg h, List.getElem?_eq_none (by simp; omega)]; rfl
def vD (B : Nat -> Nat) (i b : Nat) : Nat -> Nat := fun j => if j = i then b else B j
theorem Mi {B : Nat -> Nat} {n m i b : Nat} : (mB B n i m).set (0 + i * 1) (.slice (some ⟨b, 0, none⟩) n n) = mB (vD B i b) n (i + 1) m := by
 unfold mB;refine List.ext_getElem? (fun j => ?_);rw [Nat.zero_add, Nat.mul_one, List.getElem?_set, List.getElem?_map, List.getElem?_map];by_cases hj : i = j
 ·subst hj
  rw [if_pos rfl];by_cases hk : i < m
  ·rw [if_pos (by simpa using hk), List.getElem?_range hk]; simp [vD]
  ·rw [if_neg (by simpa using hk), List.getElem?_eq_none (by simp; omega)]; rfl
 ·rw [if_neg hj]
  by_cases hk : j < m
  ·rw [List.getElem?_range hk]
   simp only [Option.map_some];by_cases h1 : j < i
   ·rw [if_pos h1, if_pos oM]; simp [vD, show j ≠ i by omega]
   ·rw [if_neg h1, if_neg oM]
  ·rw [List.getElem?_eq_none (by simp; omega)]; rfl
theorem Mj {B : Nat -> Nat} {n i b : Nat} {T : Nat -> Nat -> Int} : .row b 3 false (ints (kQ T n i)) :: seg B n T i = seg (vD B i b) n T (i + 1) := by
 show _ = _ :: _;rw [show vD B i b i = b by simp [vD], tY (B := B) (B' := vD B i b) (fun j hj => by simp [vD, show j ≠ i by omega]) (fun _ _ => rfl)]
def lJ (m : Int) (ls : List (List Int)) : Int := if 0 <= m /\ m <= 64 then (if 400 < (ls.length : Int) then 2 else if mV m ls = true then 0 else 20) else 21
section
variable {X : FuncId -> List Value -> St -> (Value -> St -> Bool) -> Bool}
theorem kX (n : Nat) (x lo hi : Int) (s : St) (hs : Wf s) : bW Tryz.prog (cA cH) X (n + 20) 111 [.int .i64 x, .int .i64 lo, .int .i64 hi] s (fun v A => v = .bool (decide (lo <= x /\ x <= hi)) /\ A = []) := by
 refine enter Hu rfl hs ?_;unfold DM;refine rS (kM J J (Q0 (rS (kM J J (kM J J (kO J (fG J J (fun h1 => ?_) (fun h1 => ?_))))))))
 ·refine kM J J (kG J J (U2 J (kG J J (U2 J (kG J J (fG J J (fun h2 => ?_) (fun h2 => ?_)))))))
  ·refine kO J (W2 J J J (kM J J (Q0 (V2 (aV J ⟨congrArg Value.bool ?_, rfl⟩)))))
   first | exact (decide_eq_true oM).symm | exact (decide_eq_false oM).symm
  ·refine kO J (W2 J J J (kM J J (Q0 (V2 (aV J ⟨congrArg Value.bool ?_, rfl⟩)))))
   first | exact (decide_eq_true oM).symm | exact (decide_eq_false oM).symm
 ·refine kM J J (V0 J J (V0 J J (V0 J J (kO J (U1 J J J (kM J J (Q0 (V2 (aV J ⟨congrArg Value.bool ?_, rfl⟩)))))))))
  first | exact (decide_eq_true oM).symm | exact (decide_eq_false oM).symm
theorem yN (n : Nat) (m y0 y1 y2 y3 : Int) (s : St) (hs : Wf s) : bW Tryz.prog (cA cH) X (n + 100) 188 [.int .i64 m, .agg ⟨[.int .i64 y0, .int .i64 y1, .int .i64 y2, .int .i64 y3]⟩] s (fun v A => v = .int .i64 (if (0 <= m /\ m <= 64) /\ (0 <= y0 /\ y0 <= m) /\ (0 <= y1 /\ y1 <= m) /\ ¬ y0 = y1 /\ (-20000 <= y2 /\ y2 <= 20000) /\ (1 <= y3 /\ y3 <= 99999) then 0 else 20) /\ A = []) := by
 refine enter HM rfl hs ?_;unfold Eb;refine rS (kO J (bI J J J (fun b1 => (kM J J (Q0 (rQ (rS (kM J J (kO J (bH J J (fun s1 h1 => kX _ _ _ _ s1 h1.wf) (fun h2 => ?_) (fun h2 => ?_)))))))))))
 ·refine kO J (U6 J (kM J J (kG J J (Q2 J (kG J J (Y1 J .here rfl (kG J J (U2 J (kG J J (bH J J (fun s1 h1 => kX _ _ _ _ s1 h1.wf) (fun h3 => ?_) (fun h3 => ?_)))))))))))
  ·refine kG J J (U6 J (kO J (U1 J J J (kM J J (kG J J (Q2 J (kG J J (Y1 J .here rfl (kG J J (U2 J (kG J J (bH J J (fun s1 h1 => kX _ _ _ _ s1 h1.wf) (fun h4 => ?_) (fun h4 => ?_)))))))))))))
   ·refine kG J J (U6 J (kO J (U1 J J J (kM J J (kG J J (Q2 J (kG J J (Y1 J .here rfl (kG J J (Q2 J (kG J J (Y1 J .here rfl (kG J J (bS J J (fun h5 => ?_) (fun h5 => ?_)))))))))))))))
    ·refine kO J (U1 J J J (kM J J (V0 J J (V0 J J (V0 J J (V0 J J (kO J (W2 J J J (kM J J (V0 J J (V0 J J (V0 J J (V0 J J (kO J (W2 J J J (Q0 (Y0 J (rS (kM J J (Q0 (V2 (W3 (aV J ⟨congrArg (Value.int .i64) ?_, rfl⟩)))))))))))))))))))))))
     first | exact (if_pos oM).symm | exact (if_neg oM).symm
    ·refine kO J (U1 J J J (kM J J (kG J J (Q2 J (kG J J (Y1 J .here rfl (kG J J (bH J J (fun s1 h1 => kX _ _ _ _ s1 h1.wf) (fun h6 => ?_) (fun h6 => ?_)))))))))
     ·refine kG J J (U6 J (kO J (U1 J J J (kM J J (kG J J (Q2 J (kG J J (Y1 J .here rfl (kG J J (bH J J (fun s1 h1 => kX _ _ _ _ s1 h1.wf) (fun h7 => ?_) (fun h7 => ?_)))))))))))
      ·refine kG J J (U6 J (kO J (U1 J J J (Q0 (U0 J (Q1 (W0 (rS (kM J J (Q0 (V2 (aV J ⟨congrArg (Value.int .i64) ?_, rfl⟩))))))))))))
       first | exact (if_pos oM).symm | exact (if_neg oM).symm
      ·refine kG J J (U6 J (kO J (U1 J J J (Q0 (Y0 J (rS (kM J J (Q0 (V2 (W3 (aV J ⟨congrArg (Value.int .i64) ?_, rfl⟩)))))))))))
       first | exact (if_pos oM).symm | exact (if_neg oM).symm
     ·refine kG J J (U6 J (kO J (U1 J J J (kM J J (V0 J J (V0 J J (V0 J J (V0 J J (kO J (W2 J J J (Q0 (Y0 J (rS (kM J J (Q0 (V2 (W3 (aV J ⟨congrArg (Value.int .i64) ?_, rfl⟩))))))))))))))))))
      first | exact (if_pos oM).symm | exact (if_neg oM).symm
   ·refine kG J J (U6 J (kO J (U1 J J J (kM J J (V0 J J (V0 J J (V0 J J (V0 J J (V0 J J (kO J (W2 J J J (kM J J (V0 J J (V0 J J (V0 J J (V0 J J (kO J (W2 J J J (kM J J (V0 J J (V0 J J (V0 J J (V0 J J (kO J (W2 J J J (Q0 (Y0 J (rS ?_))))))))))))))))))))))))))))
    refine kM J J (Q0 (V2 (W3 (aV J ⟨congrArg (Value.int .i64) ?_, rfl⟩))))
    first | exact (if_pos oM).symm | exact (if_neg oM).symm
  ·refine kG J J (U6 J (kO J (U1 J J J (kM J J (V0 J J (V0 J J (V0 J J (V0 J J (V0 J J (kO J (W2 J J J (kM J J (V0 J J (V0 J J (V0 J J (V0 J J (V0 J J (kO J (W2 J J J (kM J J (V0 J J (V0 J J (V0 J J (V0 J J (kO J (W2 J J J (kM J J (V0 J J ?_))))))))))))))))))))))))))))
   refine V0 J J (V0 J J (V0 J J (kO J (W2 J J J (Q0 (Y0 J (rS (kM J J (Q0 (V2 (W3 (aV J ⟨congrArg (Value.int .i64) ?_, rfl⟩))))))))))))
   first | exact (if_pos oM).symm | exact (if_neg oM).symm
 ·refine kO J (U6 J (kM J J (V0 J J (V0 J J (V0 J J (V0 J J (V0 J J (kO J (W2 J J J (kM J J (V0 J J (V0 J J (V0 J J (V0 J J (V0 J J (kO J (W2 J J J (kM J J (V0 J J (V0 J J (V0 J J (V0 J J (V0 J J (kO J (W2 J J J (kM J J (V0 J J ?_)))))))))))))))))))))))))))
  refine V0 J J (V0 J J (V0 J J (kO J (W2 J J J (kM J J (V0 J J (V0 J J (V0 J J (V0 J J (kO J (W2 J J J (Q0 (Y0 J (rS (kM J J (Q0 (V2 (W3 (aV J ⟨congrArg (Value.int .i64) ?_, rfl⟩)))))))))))))))))))
  first | exact (if_pos oM).symm | exact (if_neg oM).symm
theorem FL (n : Nat) (m : Int) (al : Option Addr) (cl : Nat) (ls : List (List Int)) (s : St) (hs : Wf s) (hn : 281474976710656 <= n) (hL : RowsE s 4 al ls) : bW Tryz.prog (cA cH) X (n + 400) 154 [.agg ⟨[.int .i64 m, .slice al ls.length cl]⟩] s (fun v A => v = .int .i64 (lJ m ls) /\ A = []) := by
 refine enter HG rfl hs ?_;unfold D5;have hlen := hL.len;refine rS (kO J (bI J J J (fun b1 => (kM J J (Q0 (rQ (rS (kO J (Q2 J (kO J (Y1 J .here rfl (kO J (bH J J (fun s1 h1 => kX _ _ _ _ s1 h1.wf) (fun h2 => ?_) (fun h2 => ?_))))))))))))))
 ·refine kO J (U6 J (Q0 (U0 J (Q1 (W0 (rQ (rS (kO J (Q2 J (kO J (Y1 J .here rfl (kO J (aJ J hL.spot (kO J (fP J J (fun h3 => ?_) (fun h3 => ?_))))))))))))))))
  ·refine Q0 (Y0 J (rS (kM J J (Q0 (V2 (W3 (aV J ⟨congrArg (Value.int .i64) ?_, rfl⟩)))))))
   unfold lJ
   first
    | (rw [if_neg oM]; done)
    | (rw [if_pos oM, if_pos oM]; done)
    | (rw [if_pos oM, if_neg oM, vS hx hi oM]; rfl)
    | (rw [if_pos oM, if_neg oM, vT hi oM]; rfl)
  ·refine Q0 (U0 J (Q1 (W0 (rQ (rS (kO J (Q2 J (kO J (Y1 J .here rfl (kO J (aJ J hL.spot (kM J J (Q0 (W1 (U4 (fun j e A => ∃ (k : Nat), e = [(1, .pointer (some ⟨b1, 0, none⟩)), (14, .slice al ls.length cl), (15, .int .i64 (ls.length : Int)), (16, .int .i64 (k : Int))] /\ A = (.row b1 45 false ([.int .i64 m, .slice al ls.length cl]) :: []) /\ j = ls.length - k /\ k <= ls.length /\ mV m ls = mV m (ls.drop k)) 200 0 281474976710656 ?_ (j := _) (env2 := _) (A2 := _) ?_ ?_ ?_ ?_ ⟨0, rfl, rfl, rfl, Nat.zero_le _, rfl⟩)))))))))))))))
   rotate_left
   ·omega
   ·omega
   ·exact lL
   ·exact (.q .slnil)
   rintro n hn j _ _ ⟨k, rfl, rfl, rfl, hk, hi⟩;refine rS (kO J (W5 J J (fun h4 => ?_) (fun h4 => ?_)))
   ·obtain ⟨q4, o4, y0, y1, y2, y3, ahL, hx, hat, i0, i1, i2, i3⟩ := hL.row4r (k := k) oM
    have hat2 := hat;obtain ⟨d0, d1, d2, d3, _⟩ := hat2;have := i0.lo; have := i0.hi;have := i1.lo; have := i1.hi;have := i2.lo; have := i2.hi;have := i3.lo; have := i3.hi;refine Q0 (rQ (Y0 J (Q1 (W0 (rQ (W1 (rS (kO J (bK (j := k) ahL rfl rfl (by first | rfl | omega) (by first | decide | omega) (kO J (cV J dE aM J (kO J (bG J J (fun b5 => (kZ J (Q6 J J .here rfl rfl rfl rfl (Q0 (rS (kO J (Q2 J (kO J (Y1 J .h1 J (kO J (V4 J dE .here rfl (kO J (gL J J (fun s1 h1 => yN _ _ _ _ _ _ s1 h1.wf) (fun h6 => ?_) (fun h6 => ?_)))))))))))))))))))))))))))
    ·refine kO J (V3 J J (fun h => absurd h dE) (fun _ => (Q0 (U0 J (Q1 (Z1 (W0 (rI (kO J (Y3 J J oM (kM J J (Q0 (W0 ?_)))))))))))))
     exact ⟨rfl, _, _, _, (show ls.length - (k + 1) < ls.length - k from oM), lL, (.cons _ (.q .slnil)), ⟨k + 1, rfl, rfl, rfl, oM, If hx hi aM⟩⟩
    ·refine kO J (V3 J J (fun _ => (Q0 (Y0 J (rS (kM J J (Q0 (V2 (Y6 (W3 (W3 (Y6 (W3 (aV J ⟨congrArg (Value.int .i64) ?_, rfl⟩))))))))))))) (fun h => absurd h dE))
     unfold lJ
     first
      | (rw [if_neg oM]; done)
      | (rw [if_pos oM, if_pos oM]; done)
      | (rw [if_pos oM, if_neg oM, vS hx hi oM]; rfl)
      | (rw [if_pos oM, if_neg oM, vT hi oM]; rfl)
   ·refine Q0 (rQ (U0 J (Y4 (Z2 (Z2 (Q3 (W0 (rS (kM J J (Q0 (V2 (aV J ⟨congrArg (Value.int .i64) ?_, rfl⟩))))))))))))
    unfold lJ
    first
     | (rw [if_neg oM]; done)
     | (rw [if_pos oM, if_pos oM]; done)
     | (rw [if_pos oM, if_neg oM, vS hx hi oM]; rfl)
     | (rw [if_pos oM, if_neg oM, vT hi oM]; rfl)
 ·refine kO J (U6 J (Q0 (Y0 J (rS (kM J J (Q0 (V2 (W3 (aV J ⟨congrArg (Value.int .i64) ?_, rfl⟩)))))))))
  unfold lJ
  first
   | (rw [if_neg oM]; done)
   | (rw [if_pos oM, if_pos oM]; done)
   | (rw [if_pos oM, if_neg oM, vS hx hi oM]; rfl)
   | (rw [if_pos oM, if_neg oM, vT hi oM]; rfl)
end
theorem EH {B : Nat -> Nat} {n m i b : Nat} (h : i < m) : (mB (vD B i b) n (i + 1) m)[0 + i * 1]? = some (.slice (some ⟨b, 0, none⟩) n n) := by
 rw [fK oM h]; simp [vD]
def dg (n i k : Nat) : List Int := kQ (fun _ j => if j < k /\ ¬ j = i then 1000000000 else 0) n i
theorem Od {n i k : Nat} : (dg n i k).length = n := eF
theorem xZ {T T' : Nat -> Nat -> Int} {n i i' : Nat} (h : ∀ j, j < n -> T i j = T' i' j) : kQ T n i = kQ T' n i' := by
 unfold kQ;exact List.map_congr_left (fun j hj => h j (List.mem_range.1 hj))
theorem Mk {n i : Nat} : List.replicate n 0 = dg n i 0 := by
 refine List.ext_getElem? (fun j => ?_);unfold dg kQ;rw [List.getElem?_replicate, List.getElem?_map];by_cases h : j < n
 ·rw [if_pos h, List.getElem?_range h]; rfl
 ·rw [if_neg h, List.getElem?_eq_none (by simp; omega)]; rfl
theorem EI {n i k : Nat} (h : k = i) : dg n i (k + 1) = dg n i k := by
 subst h;refine xZ (fun j hj => ?_);by_cases h1 : j < k
 ·rw [if_pos ⟨oM, oM⟩, if_pos ⟨h1, oM⟩]
 ·rw [if_neg oM, if_neg oM]
theorem Ih {n i k : Nat} (h : ¬ k = i) : (dg n i k).set k 1000000000 = dg n i (k + 1) := by
 unfold dg;rw [xY];refine xZ (fun j hj => ?_);unfold lO;by_cases h1 : j = k
 ·subst h1
  rw [if_pos ⟨rfl, rfl⟩, if_pos ⟨oM, h⟩]
 ·rw [if_neg oM]
  show (if j < k /\ ¬ j = i then (1000000000 : Int) else 0) = _;by_cases h2 : j < k /\ ¬ j = i
  ·rw [if_pos h2, if_pos ⟨oM, h2.2⟩]
  ·rw [if_neg h2, if_neg oM]
def T0 : Nat -> Nat -> Int := fun i k => if i = k then 0 else 1000000000
theorem Oe {n i k : Nat} (h : k = n) : dg n i k = kQ T0 n i := by
 subst h;refine xZ (fun j hj => ?_);unfold T0;by_cases h1 : j = i
 ·subst h1
  rw [if_neg oM, if_pos rfl]
 ·rw [if_pos ⟨hj, h1⟩, if_neg oM]
def oP (ls : List (List Int)) : Nat -> Nat -> Nat -> Int
 | 0 => T0
 | k + 1 => lO (oP ls k) ((ls.getD k []).getD 0 0).toNat ((ls.getD k []).getD 1 0).toNat (min (oP ls k ((ls.getD k []).getD 0 0).toNat ((ls.getD k []).getD 1 0).toNat) ((ls.getD k []).getD 2 0))
theorem kY {ls : List (List Int)} {k u0 u1 : Nat} {y2 y3 : Int} (h : ls[k]? = some [(u0 : Int), (u1 : Int), y2, y3]) : oP ls (k + 1) = lO (oP ls k) u0 u1 (min (oP ls k u0 u1) y2) := by
 have e : ls.getD k [] = [(u0 : Int), (u1 : Int), y2, y3] := by rw [List.getD_eq_getElem?_getD, h]; rfl
 show lO _ _ _ _ = _;rw [e]; rfl
def MX (T : Nat -> Nat -> Int) (m i k : Nat) : Nat -> Nat -> Int :=
 if ¬ T i m = 1000000000 /\ ¬ T m k = 1000000000 then lO T i k (max (min (T i k) (T i m + T m k)) (-2560000)) else T
def kT (T : Nat -> Nat -> Int) (m i : Nat) : Nat -> Nat -> Nat -> Int
 | 0 => T
 | k + 1 => MX (kT T m i k) m i k
def iT (T : Nat -> Nat -> Int) (N m : Nat) : Nat -> Nat -> Nat -> Int
 | 0 => T
 | i + 1 => kT (iT T N m i) m i N
def mT (T : Nat -> Nat -> Int) (N : Nat) : Nat -> Nat -> Nat -> Int
 | 0 => T
 | m + 1 => iT (mT T N m) N m N
def wm (ls : List (List Int)) (N m : Nat) : Nat -> Nat -> Int := mT (oP ls ls.length) N m
def wi (ls : List (List Int)) (N m i : Nat) : Nat -> Nat -> Int := iT (wm ls N m) N m i
def wk (ls : List (List Int)) (N m i k : Nat) : Nat -> Nat -> Int := kT (wi ls N m i) m i k
def WB (ls : List (List Int)) (N : Nat) : Prop := ∀ m i k, m < N -> i < N -> k < N -> ∀ a b, a < N -> b < N -> -1000000000000000000 <= wk ls N m i k a b /\ wk ls N m i k a b <= 1000000000000000000
theorem Ii {ls : List (List Int)} {N m i k : Nat} (h1 : ¬ wk ls N m i k i m = 1000000000) (h2 : ¬ wk ls N m i k m k = 1000000000) : lO (wk ls N m i k) i k (max (min (wk ls N m i k i k) (wk ls N m i k i m + wk ls N m i k m k)) (-2560000)) = wk ls N m i (k + 1) := (if_pos ⟨h1, h2⟩).symm
theorem Ij {ls : List (List Int)} {N m i k : Nat} (h : ¬ (¬ wk ls N m i k i m = 1000000000 /\ ¬ wk ls N m i k m k = 1000000000)) : wk ls N m i k = wk ls N m i (k + 1) := (if_neg h).symm
section
variable {X : FuncId -> List Value -> St -> (Value -> St -> Bool) -> Bool}
theorem Ml (n : Nat) (M : Nat) (al : Option Addr) (cl : Nat) (ls : List (List Int)) (s : St) (hs : Wf s) (hn : 1688849860263936 <= n) (hL : RowsE s 4 al ls) (hM : M <= 64) (hlm : mV (M : Int) ls = true) (hWB : WB ls (M + 1)) : bW Tryz.prog (cA cH) X (n + 1500) 156 [.agg ⟨[.int .i64 (M : Int), .slice al ls.length cl]⟩] s (fun v A => ∃ b B, v = .slice (some ⟨b, 0, none⟩) (M + 1) (M + 1) /\ A = seg B (M + 1) (wm ls (M + 1) (M + 1)) (M + 1) ++ [.row b 22 false (mB B (M + 1) (M + 1) (M + 1))]) := by
 refine enter HH rfl hs ?_;unfold D6;have hlen := hL.len;refine rS (kO J (bI J J J (fun b1 => (kM J J (Q0 (rS (kO J (Q2 J (kO J (Y1 J .here rfl (kO J (Y3 J J oM (kM J J (Q0 (rS (kM J J (kO J (CX (m := M + 1) (c := M + 1) J J oM oM oM (fun b2 => (kM J J (Q0 (rQ (rS (kM J J (kO J (dO J (kM J J (Q0 (W1 ?_)))))))))))))))))))))))))))));rw [Ig (B := fun _ => 0) (n := M + 1)];refine U4 (fun j e A => ∃ (i : Nat) (B : Nat -> Nat), e = [(1, .pointer (some ⟨b1, 0, none⟩)), (3, .int .i64 ((M : Int) + 1)), (4, .slice (some ⟨b2, 0, none⟩) (M + 1) (M + 1)), (18, .int .i64 ((M + 1 : Nat) : Int)), (19, .int .i64 (i : Int))] /\ A = (seg B (M + 1) T0 i ++ (.row b2 22 false (mB B (M + 1) i (M + 1)) :: (.row b1 45 false ([.int .i64 (M : Int), .slice al ls.length cl]) :: []))) /\ j = M + 1 - i /\ i <= M + 1) 400 281474976710656 281474976710656 ?_ (j := _) (env2 := _) (A2 := _) ?_ ?_ ?_ ?_ ⟨0, fun _ => 0, rfl, rfl, rfl, Nat.zero_le _⟩
 rotate_left
 ·omega
 ·omega
 ·exact lL
 ·exact (.q (.q .slnil))
 rintro n hn j _ _ ⟨i, B, rfl, rfl, rfl, hi⟩;refine rS (kO J (W5 J J (fun h3 => ?_) (fun h3 => ?_)))
 ·refine Q0 (rQ (Y0 J (Q1 (W0 (rQ (W1 (rS (kM J J (kM J J (Q0 (rS (kM J J (kM J J (kM J J (kO J (CY (m := M + 1) (c := M + 1) J J oM oM oM (fun b4 => (kO J (Z3 (j := i) J J oM oM (kZ J (cX J J (by rw [Mi]; exact (.next (.app .here))) (by rw [Nat.blt_eq, Mh]; omega) J (Q0 (rS (kM J J (kM J J (kO J (Z3 (j := i) J J oM oM (kO J (Y1 J (.next (.app .here)) (EH oM) ?_)))))))))))))))))))))))))))))
  refine kO J (dO J (kM J J (Q0 (W1 ?_))));rw [Mk (i := i)];refine U4 (fun j e A => ∃ (k : Nat), e = [(1, .pointer (some ⟨b1, 0, none⟩)), (3, .int .i64 ((M : Int) + 1)), (4, .slice (some ⟨b2, 0, none⟩) (M + 1) (M + 1)), (5, .int .i64 (i : Int)), (18, .int .i64 ((M + 1 : Nat) : Int)), (19, .int .i64 (i : Int)), (31, .int .i64 ((M + 1 : Nat) : Int)), (32, .int .i64 (k : Int))] /\ A = (.row b4 3 false (ints (dg (M + 1) i k)) :: (seg B (M + 1) T0 i ++ (.row b2 22 false (mB (vD B i b4) (M + 1) (i + 1) (M + 1)) :: (.row b1 45 false ([.int .i64 (M : Int), .slice al ls.length cl]) :: [])))) /\ j = M + 1 - k /\ k <= M + 1) 200 0 281474976710656 ?_ (j := _) (env2 := _) (A2 := _) ?_ ?_ ?_ ?_ ⟨0, rfl, rfl, rfl, Nat.zero_le _⟩
  rotate_left
  ·omega
  ·omega
  ·exact lL
  ·exact (.q (.r (.q (.q .slnil))))
  rintro n hn j _ _ ⟨k, rfl, rfl, rfl, hk⟩;have hdl := Od (n := M + 1) (i := i) (k := k);refine rS (kO J (W5 J J (fun h5 => ?_) (fun h5 => ?_)))
  ·refine Q0 (rQ (Y0 J (Q1 (W0 (rQ (W1 (rS (kM J J (kM J J (Q0 (rS (kM J J (kM J J (kO J (V3 J J (fun h6 => ?_) (fun h6 => ?_))))))))))))))))
   ·refine Q0 (Y0 J (rI (kM J J (kM J J (kO J (Z3 (j := i) J J oM oM (kO J (Y1 J (.next (.app .here)) (EH oM) (kM J J (kO J (Z3 (j := k) J J oM oM (kZ J (W7 J J .here (by first | omega | (simp; done) | (simp [eE]; omega) | (simp; omega)) (Q0 (Z1 (W0 (rI (kO J (Y3 J J oM (kM J J (Q0 (W0 ?_))))))))))))))))))))))
    exact ⟨rfl, _, _, _, (show M + 1 - (k + 1) < M + 1 - k from oM), lL, (.q (.r (.q (.q .slnil)))), ⟨k + 1, rfl, (by first | (rw [Ih oM]; done) | (rw [EI oM]; done)), rfl, oM⟩⟩
   ·refine Q0 (U0 J (Q1 (Z1 (W0 (rI (kO J (Y3 J J oM (kM J J (Q0 (W0 ?_))))))))))
    exact ⟨rfl, _, _, _, (show M + 1 - (k + 1) < M + 1 - k from oM), lL, (.q (.r (.q (.q .slnil)))), ⟨k + 1, rfl, (by first | (rw [Ih oM]; done) | (rw [EI oM]; done)), rfl, oM⟩⟩
  ·refine Q0 (rQ (U0 J (Y4 (Z2 (Z2 (Q3 (Z1 (W0 (rI (kO J (Y3 J J oM (kM J J (Q0 (W0 ?_))))))))))))))
   exact ⟨rfl, _, _, _, (show M + 1 - (i + 1) < M + 1 - i from oM), lL, (.q (.r (.q (.q .slnil)))), ⟨i + 1, vD B i b4, rfl, (by rw [Oe oM, <- Mj]; rfl), rfl, oM⟩⟩
 ·have hiN : i = M + 1 := oM
  subst hiN;refine Q0 (rQ (U0 J (Y4 (Z2 (Z2 (Q3 (W0 (rQ (rS (kO J (Q2 J (kO J (Y1 J (.app .h1) J (kO J (aJ J hL.spot (kM J J (Q0 (W1 ?_))))))))))))))))));refine U4 (fun j e A => ∃ (k : Nat), e = [(4, .slice (some ⟨b2, 0, none⟩) (M + 1) (M + 1)), (47, .slice al ls.length cl), (48, .int .i64 (ls.length : Int)), (49, .int .i64 (k : Int))] /\ A = (seg B (M + 1) (oP ls k) (M + 1) ++ (.row b2 22 false (mB B (M + 1) (M + 1) (M + 1)) :: (.row b1 45 false ([.int .i64 (M : Int), .slice al ls.length cl]) :: []))) /\ j = ls.length - k /\ k <= ls.length) 200 0 281474976710656 ?_ (j := _) (env2 := _) (A2 := _) ?_ ?_ ?_ ?_ ⟨0, rfl, rfl, rfl, Nat.zero_le _⟩
  rotate_left
  ·omega
  ·omega
  ·exact lL
  ·exact (.r (.q (.q .slnil)))
  rintro n hn j _ _ ⟨k, rfl, rfl, rfl, hk⟩;refine rS (kO J (W5 J J (fun h7 => ?_) (fun h7 => ?_)))
  ·obtain ⟨q4, o4, y0, y1, y2, y3, ahL, hx, hat, i0, i1, i2, i3⟩ := hL.row4r (k := k) oM
   have hat2 := hat;obtain ⟨d0, d1, d2, d3, _⟩ := hat2;have := i0.lo; have := i0.hi;have := i1.lo; have := i1.hi;have := i2.lo; have := i2.hi;have := i3.lo; have := i3.hi;have hc4 := C6 hlm hx;obtain ⟨u0, rfl⟩ : ∃ q : Nat, y0 = (q : Int) := ⟨y0.toNat, oM⟩;obtain ⟨u1, rfl⟩ : ∃ q : Nat, y1 = (q : Int) := ⟨y1.toNat, oM⟩;refine Q0 (rQ (Y0 J (Q1 (W0 (rQ (W1 (rS (kO J (bK (j := k) ahL rfl rfl (by first | rfl | omega) (by first | decide | omega) (kO J (cV J dE aM J (kO J (bG J J (fun b8 => (kZ J (Q6 J J .here rfl rfl rfl rfl (Q0 (rI (kM J J (kO J (Q2 J (kO J (Y1 J .here rfl (kO J (Z3 (j := u0) J J oM oM (kO J (Y1 J (.next (.app .here)) (fK oM oM) (kO J (Q2 J (kO J (Y1 J .here rfl (kM J J (kO J (Q2 J (kO J (Y1 J .here rfl ?_))))))))))))))))))))))))))))))))))));refine kO J (Z3 (j := u0) J J oM oM (kO J (Y1 J (.next (.app .here)) (fK oM oM) (kO J (Q2 J (kO J (Y1 J .here rfl (kO J (Z3 (j := u1) J J oM oM (kO J (Q5 (x := (oP ls k) (u0) (u1)) J (.next (gR oM)) (by rw [eF]; omega) (fS oM) (kO J (Q2 J (kO J (Y1 J .here rfl (kO J (sH J (kO J (Z3 (j := u1) J J oM oM (kZ J (W7 J J (.next (AP oM)) (by rw [eF]; omega) (Q0 (Z1 (W0 (rI (kO J (Y3 J J oM (kM J J (Q0 (W0 ?_))))))))))))))))))))))))))))));exact ⟨rfl, _, _, _, (show ls.length - (k + 1) < ls.length - k from oM), lL, (.cons _ (.r (.q (.q .slnil)))), ⟨k + 1, rfl, (by first | (rw [kY hx]; done) | (rw [kY hx]; rfl)), rfl, oM⟩⟩
  ·have hkN : k = ls.length := oM
   subst hkN;refine Q0 (rQ (U0 J (Y4 (Z2 (Z2 (Q3 (W0 (rQ (rS (kM J J (kO J (dO J (kM J J (Q0 (W1 ?_)))))))))))))));refine U4 (fun j e A => ∃ (u : Nat), e = [(4, .slice (some ⟨b2, 0, none⟩) (M + 1) (M + 1)), (75, .int .i64 ((M + 1 : Nat) : Int)), (76, .int .i64 (u : Int))] /\ A = (seg B (M + 1) (wm ls (M + 1) u) (M + 1) ++ (.row b2 22 false (mB B (M + 1) (M + 1) (M + 1)) :: [])) /\ j = M + 1 - u /\ u <= M + 1) 600 562949953421312 281474976710656 ?_ (j := _) (env2 := _) (A2 := _) ?_ ?_ ?_ ?_ ⟨0, rfl, rfl, rfl, Nat.zero_le _⟩
   rotate_left
   ·omega
   ·omega
   ·exact lL
   ·exact (.r (.q (.cons _ .slnil)))
   rintro n hn j _ _ ⟨u, rfl, rfl, rfl, hu⟩;refine rS (kO J (W5 J J (fun h9 => ?_) (fun h9 => ?_)))
   ·refine Q0 (rQ (Y0 J (Q1 (W0 (rQ (W1 (rS (kM J J (kM J J (Q0 (rS (kM J J (kO J (dO J (kM J J (Q0 (W1 ?_)))))))))))))))))
    refine U4 (fun j e A => ∃ (i : Nat), e = [(4, .slice (some ⟨b2, 0, none⟩) (M + 1) (M + 1)), (9, .int .i64 (u : Int)), (75, .int .i64 ((M + 1 : Nat) : Int)), (76, .int .i64 (u : Int)), (80, .int .i64 ((M + 1 : Nat) : Int)), (81, .int .i64 (i : Int))] /\ A = (seg B (M + 1) (wi ls (M + 1) u i) (M + 1) ++ (.row b2 22 false (mB B (M + 1) (M + 1) (M + 1)) :: [])) /\ j = M + 1 - i /\ i <= M + 1) 400 281474976710656 281474976710656 ?_ (j := _) (env2 := _) (A2 := _) ?_ ?_ ?_ ?_ ⟨0, rfl, rfl, rfl, Nat.zero_le _⟩
    rotate_left
    ·omega
    ·omega
    ·exact lL
    ·exact (.r (.q .slnil))
    rintro n hn j _ _ ⟨i, rfl, rfl, rfl, hi2⟩;refine rS (kO J (W5 J J (fun h10 => ?_) (fun h10 => ?_)))
    ·refine Q0 (rQ (Y0 J (Q1 (W0 (rQ (W1 (rS (kM J J (kM J J (Q0 (rS (kM J J (kO J (dO J (kM J J (Q0 (W1 ?_)))))))))))))))))
     refine U4 (fun j e A => ∃ (k : Nat), e = [(4, .slice (some ⟨b2, 0, none⟩) (M + 1) (M + 1)), (9, .int .i64 (u : Int)), (10, .int .i64 (i : Int)), (75, .int .i64 ((M + 1 : Nat) : Int)), (76, .int .i64 (u : Int)), (80, .int .i64 ((M + 1 : Nat) : Int)), (81, .int .i64 (i : Int)), (85, .int .i64 ((M + 1 : Nat) : Int)), (86, .int .i64 (k : Int))] /\ A = (seg B (M + 1) (wk ls (M + 1) u i k) (M + 1) ++ (.row b2 22 false (mB B (M + 1) (M + 1) (M + 1)) :: [])) /\ j = M + 1 - k /\ k <= M + 1) 200 0 281474976710656 ?_ (j := _) (env2 := _) (A2 := _) ?_ ?_ ?_ ?_ ⟨0, rfl, rfl, rfl, Nat.zero_le _⟩
     rotate_left
     ·omega
     ·omega
     ·exact lL
     ·exact (.r (.q .slnil))
     rintro n hn j _ _ ⟨k, rfl, rfl, rfl, hk2⟩;refine rS (kO J (W5 J J (fun h11 => ?_) (fun h11 => ?_)))
     ·have hw1 := hWB u i k oM oM oM i u oM oM
      have hw2 := hWB u i k oM oM oM u k oM oM;have hw3 := hWB u i k oM oM oM i k oM oM;refine Q0 (rQ (Y0 J (Q1 (W0 (rQ (W1 (rS (kM J J (kM J J (Q0 (rS (kM J J (kM J J (kO J (Z3 (j := i) J J oM oM (kO J (Y1 J (.app .here) (fK oM oM) (kM J J (kO J (Z3 (j := u) J J oM oM (kO J (Q5 (x := (wk ls (M + 1) u i k) (i) (u)) J (gR oM) (by rw [eF]; omega) (fS oM) (kO J (V3 J J (fun h12 => ?_) (fun h12 => ?_)))))))))))))))))))))))))
      ·refine kM J J (kG J J (U2 J (kG J J (U2 J (kG J J (Z3 (j := u) J J oM oM (kG J J (Y1 J (.app .here) (fK oM oM) (kG J J (U2 J (kG J J (Z3 (j := k) J J oM oM (kG J J (Q5 (x := (wk ls (M + 1) u i k) (u) (k)) J (gR oM) (by rw [eF]; omega) (fS oM) (kG J J (V3 J J (fun h13 => ?_) (fun h13 => ?_)))))))))))))))))
       ·refine kO J (W2 J J J (Q0 (Y0 J (rI (kM J J (kM J J (kO J (Z3 (j := i) J J oM oM (kO J (Y1 J (.app .here) (fK oM oM) (kM J J (kM J J (kM J J (kO J (Z3 (j := i) J J oM oM (kO J (Y1 J (.app .here) (fK oM oM) (kM J J (kO J (Z3 (j := k) J J oM oM (kO J (Q5 (x := (wk ls (M + 1) u i k) (i) (k)) J (gR oM) (by rw [eF]; omega) (fS oM) (kM J J (kM J J (kO J (Z3 (j := i) J J oM oM (kO J (Y1 J (.app .here) (fK oM oM) (kM J J (kO J (Z3 (j := u) J J oM oM (kO J (Q5 (x := (wk ls (M + 1) u i k) (i) (u)) J (gR oM) (by rw [eF]; omega) (fS oM) (kM J J ?_))))))))))))))))))))))))))))))))))
        refine kM J J (kO J (Z3 (j := u) J J oM oM (kO J (Y1 J (.app .here) (fK oM oM) (kM J J (kO J (Z3 (j := k) J J oM oM (kO J (Q5 (x := (wk ls (M + 1) u i k) (u) (k)) J (gR oM) (by rw [eF]; omega) (fS oM) (kO J (Y3 J J oM (kO J (sH J (kO J (HR J (kO J (Z3 (j := k) J J oM oM (kZ J (W7 J J (AP oM) (by rw [eF]; omega) (Q0 (Z1 (W0 (rI (kO J (Y3 J J oM (kM J J (Q0 (W0 ?_))))))))))))))))))))))))))));exact ⟨rfl, _, _, _, (show M + 1 - (k + 1) < M + 1 - k from oM), lL, (.r (.q .slnil)), ⟨k + 1, rfl, (by first | (rw [Ii oM oM]; done) | (rw [Ij oM]; done)), rfl, oM⟩⟩
       ·refine kO J (W2 J J J (Q0 (U0 J (Q1 (Z1 (W0 (rI (kO J (Y3 J J oM (kM J J (Q0 (W0 ?_))))))))))))
        exact ⟨rfl, _, _, _, (show M + 1 - (k + 1) < M + 1 - k from oM), lL, (.r (.q .slnil)), ⟨k + 1, rfl, (by first | (rw [Ii oM oM]; done) | (rw [Ij oM]; done)), rfl, oM⟩⟩
      ·refine kM J J (V0 J J (V0 J J (V0 J J (V0 J J (V0 J J (V0 J J (V0 J J (V0 J J (kO J (U1 J J J (Q0 (U0 J (Q1 (Z1 (W0 (rI (kO J (Y3 J J oM (kM J J (Q0 (W0 ?_)))))))))))))))))))))
       exact ⟨rfl, _, _, _, (show M + 1 - (k + 1) < M + 1 - k from oM), lL, (.r (.q .slnil)), ⟨k + 1, rfl, (by first | (rw [Ii oM oM]; done) | (rw [Ij oM]; done)), rfl, oM⟩⟩
     ·refine Q0 (rQ (U0 J (Y4 (Z2 (Z2 (Q3 (Z1 (W0 (rI (kO J (Y3 J J oM (kM J J (Q0 (W0 ?_))))))))))))))
      exact ⟨rfl, _, _, _, (show M + 1 - (i + 1) < M + 1 - i from oM), lL, (.r (.q .slnil)), ⟨i + 1, rfl, (by rw [show k = M + 1 by omega]; rfl), rfl, oM⟩⟩
    ·refine Q0 (rQ (U0 J (Y4 (Z2 (Z2 (Q3 (Z1 (W0 (rI (kO J (Y3 J J oM (kM J J (Q0 (W0 ?_))))))))))))))
     exact ⟨rfl, _, _, _, (show M + 1 - (u + 1) < M + 1 - u from oM), lL, (.r (.q .slnil)), ⟨u + 1, rfl, (by rw [show i = M + 1 by omega]; rfl), rfl, oM⟩⟩
   ·refine Q0 (rQ (U0 J (Y4 (Z2 (Z2 (Q3 (W0 (rS (kM J J (kM J J (Q0 (V2 ?_))))))))))))
    have huN : u = M + 1 := oM
    subst huN;exact fI J (.r (.q .slnil)) ⟨_, B, rfl, rfl⟩
end
def Mm (ls : List (List Int)) (N : Nat) : Prop := ∀ i : Nat, 0 < i -> i < N -> (∃ k : Nat, k < ls.length /\ ∃ y z : Int, ls[k]? = some [0, (i : Int), y, z]) /\ (∃ k : Nat, k < ls.length /\ ∃ y z : Int, ls[k]? = some [(i : Int), 0, y, z])
def Cm (z hi : Int) : Prop := -2560000 <= z /\ z <= hi
theorem AQ {m : Int} {ls : List (List Int)} {k : Nat} (h : mV m ls = true) (hk : k < ls.length) : ∃ (u0 u1 : Nat) (y2 y3 : Int), ls[k]? = some [(u0 : Int), (u1 : Int), y2, y3] /\ ((u0 : Int) <= m /\ (u1 : Int) <= m /\ ¬ u0 = u1 /\ -20000 <= y2 /\ y2 <= 20000) := by
 have key : ∀ (ls : List (List Int)) (k : Nat), mV m ls = true -> k < ls.length -> ∃ y0 y1 y2 y3, ls[k]? = some [y0, y1, y2, y3] := by
  intro ls
  induction ls with
  | nil => intro k _ hk; exact absurd hk (Nat.not_lt_zero k)
  | cons r ls ih =>
   intro k h hk;unfold mV at h;split at h
   ·rename_i h2; cases h2
   ·rename_i h2
    cases h2;rw [Bool.and_eq_true] at h;cases k with
    | zero => exact ⟨_, _, _, _, rfl⟩
    | succ k => exact ih k h.2 (by simpa using hk)
   ·cases h
 obtain ⟨y0, y1, y2, y3, e⟩ := key ls k h hk;have hc := C6 h e;obtain ⟨u0, rfl⟩ : ∃ q : Nat, y0 = (q : Int) := ⟨y0.toNat, oM⟩;obtain ⟨u1, rfl⟩ : ∃ q : Nat, y1 = (q : Int) := ⟨y1.toNat, oM⟩;exact ⟨u0, u1, y2, y3, e, oM⟩
theorem sP {m : Int} {ls : List (List Int)} (h : mV m ls = true) : ∀ {k : Nat}, k <= ls.length -> ∀ a b, oP ls k a b = 1000000000 ∨ (-20000 <= oP ls k a b /\ oP ls k a b <= 20000)
 | 0, _, a, b => by
  show T0 a b = _ ∨ (_ <= T0 a b /\ T0 a b <= _);unfold T0;by_cases q : a = b
  ·rw [if_pos q]; exact .inr ⟨dE, dE⟩
  ·rw [if_neg q]; exact .inl rfl
 | k + 1, hk, a, b => by
  obtain ⟨u0, u1, y2, y3, e, hc⟩ := AQ h (show k < ls.length from oM);have ih := sP h (k := k) oM a b;have ih2 := sP h (k := k) oM u0 u1;rw [kY e];unfold lO;by_cases q : a = u0 /\ b = u1
  ·rw [if_pos q]; omega
  ·rw [if_neg q]; exact ih
theorem EJ {ls : List (List Int)} {m : Int} (h : mV m ls = true) {a b : Nat} : ∀ {k : Nat} (d : Nat), k + d <= ls.length -> oP ls (k + d) a b <= oP ls k a b
 | _, 0, _ => Int.le_refl _
 | k, d + 1, hk => by
  obtain ⟨u0, u1, y2, y3, e, hc⟩ := AQ h (show k + d < ls.length from oM);have ih := EJ h (a := a) (b := b) (k := k) d oM;rw [show k + (d + 1) = k + d + 1 from rfl, kY e];unfold lO;by_cases q : a = u0 /\ b = u1
  ·rw [if_pos q]; obtain ⟨rfl, rfl⟩ := q; omega
  ·rw [if_neg q]; exact ih
theorem B3 {ls : List (List Int)} {m : Int} (h : mV m ls = true) {u0 u1 k : Nat} {y2 y3 : Int} (e : ls[k]? = some [(u0 : Int), (u1 : Int), y2, y3]) (hk : k < ls.length) : oP ls ls.length u0 u1 <= 20000 := by
 obtain ⟨v0, v1, w2, w3, e2, hc⟩ := AQ h hk;rw [e] at e2;have e3 := Option.some.inj e2;simp only [List.cons.injEq, and_true] at e3;obtain ⟨q0, q1, q2, q3⟩ := e3;have h1 := EJ h (a := u0) (b := u1) (k := k + 1) (ls.length - (k + 1)) oM;rw [show k + 1 + (ls.length - (k + 1)) = ls.length by omega, kY e] at h1;unfold lO at h1;rw [if_pos ⟨rfl, rfl⟩] at h1;omega
def Z0 (T : Nat -> Nat -> Int) (N : Nat) : Prop := ∀ a, a < N -> Cm (T 0 a) 20000 /\ Cm (T a 0) 20000
def Al (T : Nat -> Nat -> Int) (N : Nat) : Prop := ∀ a b, a < N -> b < N -> T a b = 1000000000 ∨ Cm (T a b) 40000
def Sn (T : Nat -> Nat -> Int) (N i k : Nat) : Prop := ∀ a b, a < N -> b < N -> (a < i ∨ a = i /\ b < k) -> Cm (T a b) 40000
def Fu (T : Nat -> Nat -> Int) (N : Nat) : Prop := ∀ a b, a < N -> b < N -> Cm (T a b) 40000
theorem tZ {T : Nat -> Nat -> Int} {m i k a b : Nat} : MX T m i k a b = if (¬ T i m = 1000000000 /\ ¬ T m k = 1000000000) /\ a = i /\ b = k then max (min (T i k) (T i m + T m k)) (-2560000) else T a b := by
 unfold MX;by_cases h : ¬ T i m = 1000000000 /\ ¬ T m k = 1000000000
 ·rw [if_pos h]
  unfold lO;by_cases q : a = i /\ b = k
  ·rw [if_pos q, if_pos ⟨h, q⟩]
  ·rw [if_neg q, if_neg (fun z => q z.2)]
 ·rw [if_neg h, if_neg (fun z => h z.1)]
theorem QO {T : Nat -> Nat -> Int} {N i k : Nat} (hi : i < N) (hk : k < N) (h : Z0 T N /\ Al T N /\ Sn T N i k) : Z0 (MX T 0 i k) N /\ Al (MX T 0 i k) N /\ Sn (MX T 0 i k) N i (k + 1) := by
 obtain ⟨h1, h2, h3⟩ := h;have z1 := (h1 i hi).2;have z2 := (h1 k hk).1;have z3 := h2 i k hi hk;unfold Cm at z1 z2 z3;refine ⟨fun a ha => ?_, fun a b ha hb => ?_, fun a b ha hb hab => ?_⟩
 ·have q := h1 a ha
  unfold Cm at q ⊢;rw [tZ, tZ];have c1 : 0 = i -> T i k = T 0 k := fun e => by rw [<- e]
  have c2 : 0 = k -> T i k = T i 0 := fun e => by rw [<- e]
  constructor
  ·by_cases c : (¬ T i 0 = 1000000000 /\ ¬ T 0 k = 1000000000) /\ 0 = i /\ a = k
   ·rw [if_pos c]; have := c1 c.2.1; omega
   ·rw [if_neg c]; exact q.1
  ·by_cases c : (¬ T i 0 = 1000000000 /\ ¬ T 0 k = 1000000000) /\ a = i /\ 0 = k
   ·rw [if_pos c]; have := c2 c.2.2; omega
   ·rw [if_neg c]; exact q.2
 ·have q := h2 a b ha hb
  unfold Cm at q ⊢;rw [tZ];by_cases c : (¬ T i 0 = 1000000000 /\ ¬ T 0 k = 1000000000) /\ a = i /\ b = k
  ·rw [if_pos c]; omega
  ·rw [if_neg c]; exact q
 ·rw [tZ]
  by_cases c : a = i /\ b = k
  ·rw [if_pos ⟨oM, c⟩]; unfold Cm; omega
  ·rw [if_neg (fun z => c z.2)]
   exact h3 a b ha hb oM
theorem QP {T : Nat -> Nat -> Int} {N m i k : Nat} (hm : m < N) (hi : i < N) (hk : k < N) (h : Fu T N) : Fu (MX T m i k) N := by
 intro a b ha hb;have z1 := h i m hi hm;have z2 := h m k hm hk;have z3 := h i k hi hk;have q := h a b ha hb;unfold Cm at z1 z2 z3 q ⊢;rw [tZ];by_cases c : (¬ T i m = 1000000000 /\ ¬ T m k = 1000000000) /\ a = i /\ b = k
 ·rw [if_pos c]; omega
 ·rw [if_neg c]; exact q
theorem QQ {T : Nat -> Nat -> Int} {N i : Nat} (hi : i < N) (h : Z0 T N /\ Al T N /\ Sn T N i 0) : ∀ {k : Nat}, k <= N -> Z0 (kT T 0 i k) N /\ Al (kT T 0 i k) N /\ Sn (kT T 0 i k) N i k
 | 0, _ => h
 | k + 1, hk => QO hi oM (QQ hi h (k := k) oM)
theorem QR {T : Nat -> Nat -> Int} {N m i : Nat} (hm : m < N) (hi : i < N) (h : Fu T N) : ∀ {k : Nat}, k <= N -> Fu (kT T m i k) N
 | 0, _ => h
 | k + 1, hk => QP hm hi oM (QR hm hi h (k := k) oM)
theorem Of {T : Nat -> Nat -> Int} {N i : Nat} (h : Sn T N i N) : Sn T N (i + 1) 0 := fun a b ha hb hab => h a b ha hb oM
theorem QS {T : Nat -> Nat -> Int} {N : Nat} (h : Z0 T N /\ Al T N) : ∀ {i : Nat}, i <= N -> Z0 (iT T N 0 i) N /\ Al (iT T N 0 i) N /\ Sn (iT T N 0 i) N i 0
 | 0, _ => ⟨h.1, h.2, fun a b _ _ hab => oM⟩
 | i + 1, hi => by
  obtain ⟨h1, h2, h3⟩ := QQ (show i < N from oM) (QS h (i := i) oM) (k := N) (Nat.le_refl _);exact ⟨h1, h2, Of h3⟩
theorem QT {T : Nat -> Nat -> Int} {N m : Nat} (hm : m < N) (h : Fu T N) : ∀ {i : Nat}, i <= N -> Fu (iT T N m i) N
 | 0, _ => h
 | i + 1, hi => QR hm (show i < N from oM) (QT hm h (i := i) oM) (Nat.le_refl _)
theorem Og {T : Nat -> Nat -> Int} {N : Nat} (h : Sn T N N 0) : Fu T N := fun a b ha hb => h a b ha hb (.inl ha)
theorem QU {T : Nat -> Nat -> Int} {N : Nat} (h : Z0 T N /\ Al T N) : ∀ {m : Nat}, m < N -> Fu (mT T N (m + 1)) N
 | 0, hm => Og (QS h (Nat.le_refl _)).2.2
 | m + 1, hm => QT hm (QU h (m := m) oM) (Nat.le_refl _)
theorem EK {ls : List (List Int)} {M : Nat} (h : mV (M : Int) ls = true) (hS : Mm ls (M + 1)) : Z0 (oP ls ls.length) (M + 1) /\ Al (oP ls ls.length) (M + 1) := by
 have hd : ∀ k, k <= ls.length -> oP ls k 0 0 = 0 := by
  intro k
  induction k with
  | zero => intro _; rfl
  | succ k ih =>
   intro hk;obtain ⟨u0, u1, y2, y3, e, hc⟩ := AQ h (show k < ls.length from oM);rw [kY e];unfold lO;rw [if_neg oM];exact ih oM
 refine ⟨fun a ha => ?_, fun a b _ _ => ?_⟩
 ·by_cases h0 : a = 0
  ·subst h0
   rw [hd _ (Nat.le_refl _)];unfold Cm;omega
  ·obtain ⟨⟨k1, hk1, y1, z1, e1⟩, k2, hk2, y2, z2, e2⟩ := hS a oM ha
   have a1 := B3 h (u0 := 0) (u1 := a) e1 hk1;have a2 := B3 h (u0 := a) (u1 := 0) e2 hk2;have b1 := sP h (Nat.le_refl _) 0 a;have b2 := sP h (Nat.le_refl _) a 0;unfold Cm;omega
 ·have b1 := sP h (Nat.le_refl _) a b
  unfold Cm;omega
theorem EL {ls : List (List Int)} {M : Nat} (h : mV (M : Int) ls = true) (hS : Mm ls (M + 1)) : WB ls (M + 1) := by
 intro m i k hm hi hk a b ha hb;have hz := EK h hS;cases m with
 | zero =>
  have h1 : Z0 (wi ls (M + 1) 0 i) (M + 1) /\ Al (wi ls (M + 1) 0 i) (M + 1) /\ Sn (wi ls (M + 1) 0 i) (M + 1) i 0 := QS hz oM;have h2 := (QQ hi h1 (k := k) oM).2.1 a b ha hb;unfold Cm at h2;show _ <= kT (wi ls (M + 1) 0 i) 0 i k a b /\ kT (wi ls (M + 1) 0 i) 0 i k a b <= _;omega
 | succ m =>
  have h1 : Fu (wm ls (M + 1) (m + 1)) (M + 1) := QU hz oM;have h2 : Fu (wi ls (M + 1) (m + 1) i) (M + 1) := QT hm h1 oM;have h3 := (QR hm hi h2 (k := k) oM) a b ha hb;unfold Cm at h3;show _ <= kT (wi ls (M + 1) (m + 1) i) (m + 1) i k a b /\ kT (wi ls (M + 1) (m + 1) i) (m + 1) i k a b <= _;omega
theorem Mn {ls : List (List Int)} {M : Nat} (h : mV (M : Int) ls = true) (hS : Mm ls (M + 1)) : Fu (wm ls (M + 1) (M + 1)) (M + 1) := QU (EK h hS) (Nat.lt_succ_self M)
section
variable {X : FuncId -> List Value -> St -> (Value -> St -> Bool) -> Bool}
theorem rD (n : Nat) (a1 a2 : Option Addr) (c1 c2 : Nat) (l : List Int) (s : St) (hs : Wf s) (hn : 281474976710656 <= n) (hl1 : aI s a1 l) (hl2 : aI s a2 l) : bW Tryz.prog (cA cH) X (n + 100) 18 [.slice a1 l.length c1, .slice a2 l.length c2] s (fun v A => v = .bool true /\ A = []) := by
 refine enter Lr rfl hs ?_;unfold JZ;have hlen1 := hl1.len;refine rS (kM J J (Q0 (rS (kM J J (kO J (aJ J hl1.spot (kM J J (kO J (aJ J hl2.spot (kO J (bS J J (fun h1 => ?_) (fun h1 => ?_))))))))))))
 ·refine kM J J (Q0 (rQ (rS (kM J J (Q0 (W1 (U4 (fun j e A => ∃ (k : Nat), e = [(0, .slice a1 l.length c1), (1, .slice a2 l.length c2), (5, .bool true), (6, .int .i64 (k : Int))] /\ A = [] /\ j = l.length - k /\ k <= l.length) 70 0 281474976710656 ?_ (j := _) (env2 := _) (A2 := _) ?_ ?_ ?_ ?_ ⟨0, rfl, rfl, rfl, oM⟩)))))))
  rotate_left
  ·omega
  ·omega
  ·exact lL
  ·exact .slnil
  rintro n hn j _ _ ⟨k, rfl, rfl, rfl, hk⟩;refine rQ (rS (kM J J (kM J J (kO J (aJ J hl1.spot (kO J (W5 J J (fun h2 => ?_) (fun h2 => ?_))))))))
  ·refine kM J J (kG J J (U2 J (kO J (W2 J J J (Q0 (Y0 J (Q1 (W0 (rQ (W1 (rI (kM J J (kM J J (kO J (Q7 (j := k) hl1 rfl rfl oM (by first | rfl | omega) oM (fun _ _ a3 => (kO J (W6 J (hl1.at a3 oM) (kM J J (kM J J (kO J (Q7 (j := k) hl2 rfl rfl oM (by first | rfl | omega) oM (fun _ _ a4 => (kO J (W6 J (hl2.at a4 oM) (kO J (bS J J (fun h5 => ?_) (fun h5 => ?_))))))))))))))))))))))))))))
   ·refine kM J J (Q0 (Z1 (W0 (rI (kM J J (kO J (Y3 J J oM (kM J J (Q0 (W0 ?_))))))))))
    exact ⟨rfl, _, _, _, (show l.length - (k + 1) < l.length - k from oM), lL, .slnil, ⟨k + 1, rfl, rfl, rfl, oM⟩⟩
   ·exact absurd rfl h5
  ·refine kM J J (V0 J J (kO J (U1 J J J (Q0 (U0 J (Y4 (Z2 (Z2 (Q3 (W0 (rS (kM J J (kM J J (Q0 (V2 ?_)))))))))))))))
   exact aV J ⟨rfl, rfl⟩
 ·exact absurd rfl h1
end
def FT (op : Bool) (cp t : Nat) : Prop := (op = true /\ cp = OPEN) ∨ (op = false /\ cp = 1 /\ t = 0)
theorem B4 {op : Bool} {cp t : Nat} (h : FT op cp t) : zP op (t + 1) cp := by
 rcases h with h | ⟨h1, h2, rfl⟩
 ·exact .inl h
 ·exact .inr ⟨h1, h2, dE⟩
section
variable {X : FuncId -> List Value -> St -> (Value -> St -> Bool) -> Bool}
end
def aN (x m : Int) : Int := (x.tmod m + m).tmod m
theorem vU {x m : Int} (h : 0 < m) : -m < x.tmod m /\ x.tmod m < m := by
 rcases Int.lt_or_le x 0 with hx | hx
 ·have e : x.tmod m = -((-x).tmod m) := by rw [Int.neg_tmod, Int.neg_neg]
  have h2 := Int.tmod_lt_of_pos (-x) h;have h3 : 0 <= (-x).tmod m := Int.tmod_nonneg m oM;rw [e]; omega
 ·have h2 := Int.tmod_lt_of_pos x h
  have h3 : 0 <= x.tmod m := Int.tmod_nonneg m hx;omega
theorem cU {x m : Int} (h : 0 < m) : 0 <= aN x m /\ aN x m < m := by
 have h1 := vU (x := x) h;unfold aN;exact ⟨Int.tmod_nonneg m oM, (vU h).2⟩
def dB (l : List Int) (i : Nat) (m : Int) : Int := if l.length = 0 then 0 else aN (l.getD (i % l.length) 0) m
theorem eN {l : List Int} {i : Nat} {m : Int} (h : 0 < m) : 0 <= dB l i m /\ dB l i m < m := by
 unfold dB; split
 ·omega
 ·exact cU h
theorem rE {x y a b c d : Int} (hx : a <= x /\ x <= b) (hy : c <= y /\ y <= d) (ha : 0 <= a) (hc : 0 <= c) : a * c <= x * y /\ x * y <= b * d :=
 ⟨Int.mul_le_mul hx.1 hy.1 hc oM, Int.mul_le_mul hx.2 hy.2 oM oM⟩
def EM (L : List Int) (x : Int) : Prop := jD L = true /\ ∀ z ∈ L, 0 <= z /\ z < x
theorem EN : ∀ {L : List Int} {x : Int}, jD L = true -> (∀ z ∈ L, z < x) -> jD (L ++ [x]) = true
 | [], _, _, _ => rfl
 | [a], x, _, h => by
  have := h a sM;show (decide (a < x) && true) = true;rw [decide_eq_true this]; rfl
 | a :: b :: L, x, h1, h => by
  have h2 : (decide (a < b) && jD (b :: L)) = true := h1;rw [Bool.and_eq_true] at h2;show (decide (a < b) && jD (b :: L ++ [x])) = true;rw [h2.1, EN h2.2 (fun z hz => h z (by simp at hz ⊢; exact .inr hz))]; rfl
theorem EM.add {L : List Int} {x y : Int} (h : EM L x) (h0 : 0 <= x) (hy : x < y) : EM (L ++ [x]) y :=
 ⟨EN h.1 (fun z hz => (h.2 z hz).2), fun z hz => by
  rcases List.mem_append.1 hz with hz | hz
  ·have := h.2 z hz; omega
  ·rw [List.mem_singleton.1 hz]; omega⟩
theorem EM.one {x y : Int} (h0 : 0 <= x) (hy : x < y) : EM [x] y := ⟨rfl, fun z hz => by rw [List.mem_singleton.1 hz]; omega⟩
theorem EM.plc {L : List Int} {x hi m : Int} (h : EM L x) (hx : x <= hi + 1) (h2 : 2 <= L.length) (hm : (L.length : Int) <= m) : eX m hi L = true := by
 refine gO ⟨oM, hm⟩ ?_ h.1;unfold sI;rw [List.all_eq_true];intro z hz;have := h.2 z hz;simpa using (show 0 <= z /\ z <= hi from oM)
def MS (d r al up : Int) (l1 l2 : List Int) : Prop := ((1 <= d /\ d <= 99999) /\ (1 <= r /\ r <= 99999) /\ (0 <= al /\ al <= 100000) /\ (0 <= up /\ up <= 100000) /\ bA l1 l2 = true) /\ l1.length <= 4 /\ l2.length <= 3 /\ EM l1 12000 /\ EM l2 6000
theorem PQ {d r al up x y : Int} {l1 l2 : List Int} (hd : 1 <= d /\ d <= 99999) (hr : 1 <= r /\ r <= 99999) (ha : 0 <= al /\ al <= 100000) (hu : 0 <= up /\ up <= 100000) (h1 : EM l1 x) (hx : x <= 12000) (h2 : EM l2 y) (hy : y <= 6000) (n1 : 2 <= l1.length /\ l1.length <= 4) (n2 : 2 <= l2.length /\ l2.length <= 3) : MS d r al up l1 l2 :=
 ⟨⟨hd, hr, ha, hu, lG (h1.plc oM n1.1 oM) (h2.plc oM n2.1 oM) oM (by
  unfold sI;rw [List.all_eq_true];intro z hz;have := h2.2 z hz;simpa using (show 0 <= z /\ z <= 15000 from oM))⟩, n1.2, n2.2, ⟨h1.1, fun z hz => by have := h1.2 z hz; omega⟩, ⟨h2.1, fun z hz => by have := h2.2 z hz; omega⟩⟩
theorem pY {L : List Int} {x : Int} : ints (L ++ [x]) = ints L ++ [.int .i64 x] := by simp [ints]
section
variable {X : FuncId -> List Value -> St -> (Value -> St -> Bool) -> Bool}
theorem eI (n : Nat) (x m : Int) (s : St) (hs : Wf s) (hm : 0 < m /\ m <= 100000000) : bW Tryz.prog (cA cH) X (n + 40) 27 [.int .i64 x, .int .i64 m] s (fun v A => v = .int .i64 (aN x m) /\ A = []) := by
 refine enter Lx rfl hs ?_;unfold Kb;have hq := vU (x := x) hm.1;refine rS (kM J J (Q0 (rS (kM J J (kM J J (kO J (zN J J oM (kM J J (kO J (Y3 J J oM (kM J J (kO J (zN J J oM (kM J J (Q0 (V2 ?_))))))))))))))));exact aV J ⟨rfl, rfl⟩
theorem eZ (n : Nat) (a : Option Addr) (cap : Nat) (l : List Int) (i : Nat) (m : Int) (s : St) (hs : Wf s) (hi : i <= 1000) (hl : aI s a l) (hm : 0 < m /\ m <= 100000000) : bW Tryz.prog (cA cH) X (n + 100) 112 [.slice a l.length cap, .int .i64 (i : Int), .int .i64 m] s (fun v A => v = .int .i64 (dB l i m) /\ A = []) := by
 refine enter Hv rfl hs ?_;unfold DO;have hlen := hl.len;refine rS (kM J J (Q0 (rQ (rS (kM J J (kO J (aJ J hl.spot (kO J (bS J J (fun h1 => ?_) (fun h1 => ?_))))))))))
 ·refine Q0 (Y0 J (rS (kM J J (Q0 (V2 (W3 (aV J ⟨congrArg (Value.int .i64) ?_, rfl⟩)))))))
  unfold dB
  first | (rw [if_pos oM]; done) | (rw [if_neg oM]; done)
 ·have hmd : i % l.length < l.length := Nat.mod_lt _ oM
  refine Q0 (U0 J (Q1 (W0 (rS (kM J J (kM J J (kM J J (kO J (aJ J hl.spot (kO J (zN J J oM (kO J (Q7 (j := i % l.length) hl rfl rfl rfl sM oM (fun _ _ a99 => (kO J (W6 J (hl.at a99 oM) (kM J J (kO J (aH J J (fun s1 h1 => eI _ _ _ s1 h1.wf oM) (kM J J (Q0 (V2 (aV J ⟨congrArg (Value.int .i64) ?_, rfl⟩)))))))))))))))))))))));unfold dB
  first | (rw [if_pos oM]; done) | (rw [if_neg oM]; done)
theorem B5 (n : Nat) (a : Option Addr) (cap : Nat) (l : List Int) (s : St) (hs : Wf s) (hn : 281474976710656 <= n) (hl : aI s a l) : bW Tryz.prog (cA cH) X (n + 1200) 66 [.slice a l.length cap] s (fun v A => ∃ b1 b2 d r al up l1 l2, v = .agg ⟨[.int .i64 d, .int .i64 r, .slice (some ⟨b1, 0, none⟩) l1.length OPEN, .slice (some ⟨b2, 0, none⟩) l2.length OPEN, .int .i64 al, .int .i64 up]⟩ /\ A = [.row b2 3 true (ints l2), .row b1 3 true (ints l1)] /\ MS d r al up l1 l2) := by
 refine enter LS rfl hs ?_;unfold KP;have hlen := hl.len;have p0 := eN (l := l) (i := 0) (m := 99) dE;have p1 := eN (l := l) (i := 1) (m := 9) dE;have p2 := eN (l := l) (i := 2) (m := 9) dE;have p3 := eN (l := l) (i := 3) (m := 3) dE;have p4 := eN (l := l) (i := 4) (m := 3) dE;have p8 := eN (l := l) (i := 8) (m := 2) dE;have p9 := eN (l := l) (i := 9) (m := 2) dE;have p13 := eN (l := l) (i := 13) (m := 9) dE;have p14 := eN (l := l) (i := 14) (m := 5) dE;have p15 := eN (l := l) (i := 15) (m := 2) dE;have p16 := eN (l := l) (i := 16) (m := 3) dE;have p19 := eN (l := l) (i := 19) (m := 30) dE;have p20 := eN (l := l) (i := 20) (m := 40) dE;have p5 := rE (x := (100 * (1 + dB l 2 9))) (y := 1 + dB l 4 3) (a := 100) (b := 900) (c := 1) (d := 3) oM oM dE dE;have p6 := rE (x := dB l 8 2) (y := dB l 9 2) (a := 0) (b := 1) (c := 0) (d := 1) oM oM dE dE;have p7 := rE (x := (50 * (1 + dB l 13 9))) (y := 1 + dB l 16 3) (a := 50) (b := 450) (c := 1) (d := 3) oM oM dE dE;refine rS (kO J (bG J J (fun b1 => (Q0 (rS (kM J J (kO J (aH J J (fun s1 h1 => eZ _ _ _ _ (0) _ s1 h1.wf oM (hl.ext hs h1.2.1) oM) (kO J (Y3 J J oM (kM J J (kO J (aH J J (fun s1 h1 => eZ _ _ _ _ (1) _ s1 h1.wf oM (hl.ext hs h1.2.1) oM) (kO J (Y3 J J oM (kO J (Z6 J J (kO J (bG J J (fun b2 => (kZ J (Q6 J J .here rfl rfl rfl rfl (Q0 (rS (kM J J (kO J (aH J J (fun s1 h1 => eZ _ _ _ _ (2) _ s1 h1.wf oM (hl.ext hs h1.2.1) oM) (kO J (Y3 J J oM (kO J (bM J J oM (kM J J (Q0 (rS (kM J J (Q0 ?_))))))))))))))))))))))))))))))))))));refine rQ (rS (kM J J (Q0 (W1 (bJ (rQ (rS (kM J J (kM J J (kO J (aH J J (fun s1 h1 => eZ _ _ _ _ (3) _ s1 h1.wf oM (hl.ext hs h1.2.1) oM) (kO J (Y3 J J oM (kO J (W5 J J (fun h3 => ?_) (fun h3 => ?_))))))))))))))))
 ·refine Q0 (Y0 J (Q1 (W0 (rQ (W1 (rS (kO J (Q2 J (kO J (Y1 J .here rfl (kM J J (kO J (bO J J J (fun b4 => (kO J (jP J J (iG.own .here rfl sM) dE oM oM (fun b5 => (kO J (Q2 J (kZ J (cX J J .h2 J J (Q0 (rI (kM J J (kM J J (kM J J (kM J J (kO J (Y3 J J dE (kO J (aH J J (fun s1 h1 => eZ _ _ _ _ (4) _ s1 h1.wf oM (hl.ext hs h1.2.1) oM) (kO J (Y3 J J oM (kO J (bM J J oM ?_)))))))))))))))))))))))))))))))))))
  refine kO J (Y3 J J oM (kM J J (kO J (aH J J (fun s1 h1 => eZ _ _ _ _ (8) _ s1 h1.wf oM (hl.ext hs h1.2.1) oM) (kM J J (kM J J (kO J (Y3 J J dE (kO J (aH J J (fun s1 h1 => eZ _ _ _ _ (9) _ s1 h1.wf oM (hl.ext hs h1.2.1) oM) (kO J (bM J J oM (kO J (bM J J oM (kO J (Y3 J J oM (kM J J (Q0 (Z1 (W0 (rI (kM J J (kO J (Y3 J J dE (kM J J (Q0 (W0 (U4 (fun j e A => ∃ (i b : Nat) (x : Int) (L : List Int), e = [(0, .slice a l.length cap), (2, .pointer (some ⟨b1, 0, none⟩)), (3, .pointer (some ⟨b2, 0, none⟩)), (4, .int .i64 (100 * (1 + dB l 2 9))), (5, .int .i64 x), (6, .int .i64 (i : Int))] /\ A = (.row b 3 true (ints L) :: (.row b2 33 false ([.int .i64 (1 + dB l 0 99), .int .i64 (1 + dB l 1 9), .slice (some ⟨b, 0, none⟩) i OPEN, .slice none 0 0, .int .i64 0, .int .i64 0]) :: (.row b1 33 false ([.int .i64 0, .int .i64 0, .slice none 0 0, .slice none 0 0, .int .i64 0, .int .i64 0]) :: []))) /\ j = 5 - i /\ L.length = i /\ 1 <= i /\ (i : Int) <= 2 + dB l 3 3 /\ EM L x /\ 0 <= x /\ x <= 2800 * (i : Int)) 500 0 281474976710656 ?_ (j := _) (env2 := _) (A2 := _) ?_ ?_ ?_ ?_ ⟨1, b5, (0 + (100 * (1 + dB l 2 9)) * (1 + dB l (4) 3) + dB l 8 2 * dB l (9) 2 * 7), [0], rfl, rfl, rfl, rfl, oM, oM, (.one oM oM), oM⟩))))))))))))))))))))))))))))
  rotate_left
  ·omega
  ·omega
  ·exact lL
  ·exact (.q (.cons _ (.q (.q .slnil))))
  rintro n hn j _ _ ⟨i, b, x, L, rfl, rfl, rfl, hL, hi1, hi, hA, hx⟩;have pa := eN (l := l) (i := 4 + i) (m := 3) dE;have pb := eN (l := l) (i := 9 + i) (m := 2) dE;have pc := rE (x := (100 * (1 + dB l 2 9))) (y := 1 + dB l (4 + i) 3) (a := 100) (b := 900) (c := 1) (d := 3) oM oM dE dE;have pd := rE (x := dB l 8 2) (y := dB l (9 + i) 2) (a := 0) (b := 1) (c := 0) (d := 1) oM oM dE dE;refine rQ (rS (kM J J (kM J J (kO J (aH J J (fun s1 h1 => eZ _ _ _ _ (3) _ s1 h1.wf oM (hl.ext hs h1.2.1) oM) (kO J (Y3 J J oM (kO J (W5 J J (fun h6 => ?_) (fun h6 => ?_))))))))))
  ·refine Q0 (Y0 J (Q1 (W0 (rQ (W1 (rS (kO J (Q2 J (kO J (Y1 J .h1 J (kM J J (kO J (bO J J J (fun b7 => (kO J (dI J J (iG.own .here rfl sM) .h1 (by simp [hL, bZ]) (.inl ⟨rfl, rfl⟩) dE oM oM (fun b8 => (kO J (Q2 J (kZ J (cX J J .h2 J J (Q0 (rI (kM J J (kM J J (kM J J (kM J J (kO J (Y3 J J oM (kO J (aH J J (fun s1 h1 => eZ _ _ _ _ (4 + i) _ s1 h1.wf oM (hl.ext hs h1.2.1) oM) (kO J (Y3 J J oM (kO J (bM J J oM ?_)))))))))))))))))))))))))))))))))))
   refine kO J (Y3 J J oM (kM J J (kO J (aH J J (fun s1 h1 => eZ _ _ _ _ (8) _ s1 h1.wf oM (hl.ext hs h1.2.1) oM) (kM J J (kM J J (kO J (Y3 J J oM (kO J (aH J J (fun s1 h1 => eZ _ _ _ _ (9 + i) _ s1 h1.wf oM (hl.ext hs h1.2.1) oM) (kO J (bM J J oM (kO J (bM J J oM (kO J (Y3 J J oM (kM J J (Q0 (Z1 (W0 (rI (kM J J (kO J (Y3 J J oM (kM J J (Q0 (W0 ?_)))))))))))))))))))))))))));exact ⟨rfl, _, _, _, (show 5 - (i + 1) < 5 - i from oM), lL, (.q (.cons _ (.q (.q .slnil)))), ⟨i + 1, b8, (x + (100 * (1 + dB l 2 9)) * (1 + dB l (4 + i) 3) + dB l 8 2 * dB l (9 + i) 2 * 7), L ++ [x], rfl, (by rw [pY]; rfl), rfl, (by simp [hL]), oM, oM, (hA.add oM oM), oM⟩⟩
  ·refine Q0 (U0 J (Y4 (Z2 (Z2 (Q3 (W0 (rS (kM J J (kO J (aH J J (fun s1 h1 => eZ _ _ _ _ (13) _ s1 h1.wf oM (hl.ext hs h1.2.1) oM) (kO J (Y3 J J oM (kO J (bM J J oM (kM J J (Q0 (rS (kM J J (kO J (aH J J (fun s1 h1 => eZ _ _ _ _ (14) _ s1 h1.wf oM (hl.ext hs h1.2.1) oM) (kO J (bM J J oM (kM J J (Q0 (rQ (rS (kM J J (Q0 ?_))))))))))))))))))))))))))))
   refine W1 (bJ (rQ (rS (kM J J (kM J J (kO J (aH J J (fun s1 h1 => eZ _ _ _ _ (15) _ s1 h1.wf oM (hl.ext hs h1.2.1) oM) (kO J (Y3 J J oM (kO J (W5 J J (fun h9 => ?_) (fun h9 => ?_))))))))))))
   ·refine Q0 (Y0 J (Q1 (W0 (rQ (W1 (rS (kO J (Q2 J (kO J (Y1 J .h1 J (kM J J (kO J (bO J J J (fun b10 => (kO J (jP J J (iG.own .here rfl sM) dE oM oM (fun b11 => (kO J (Q2 J (kZ J (cX J J .h3 J J (Q0 (rI (kM J J (kM J J (kM J J (kM J J (kO J (Y3 J J dE (kO J (aH J J (fun s1 h1 => eZ _ _ _ _ (16) _ s1 h1.wf oM (hl.ext hs h1.2.1) oM) (kO J (Y3 J J oM (kO J (bM J J oM ?_)))))))))))))))))))))))))))))))))))
    refine kO J (Y3 J J oM (kM J J (Q0 (Z1 (W0 (rI (kM J J (kO J (Y3 J J dE (kM J J (Q0 (W0 (U4 (fun j e A => ∃ (k c : Nat) (y : Int) (M : List Int), e = [(0, .slice a l.length cap), (2, .pointer (some ⟨b1, 0, none⟩)), (3, .pointer (some ⟨b2, 0, none⟩)), (7, .int .i64 (50 * (1 + dB l 13 9))), (8, .int .i64 y), (9, .int .i64 (k : Int))] /\ A = (.row c 3 true (ints M) :: (.row b 3 true (ints L) :: (.row b2 33 false ([.int .i64 (1 + dB l 0 99), .int .i64 (1 + dB l 1 9), .slice (some ⟨b, 0, none⟩) i OPEN, .slice (some ⟨c, 0, none⟩) k OPEN, .int .i64 0, .int .i64 0]) :: (.row b1 33 false ([.int .i64 0, .int .i64 0, .slice none 0 0, .slice none 0 0, .int .i64 0, .int .i64 0]) :: [])))) /\ j = 5 - k /\ M.length = k /\ 1 <= k /\ (k : Int) <= 2 + dB l 15 2 /\ EM M y /\ 0 <= y /\ y <= 40 + 1350 * (k : Int)) 500 0 281474976710656 ?_ (j := _) (env2 := _) (A2 := _) ?_ ?_ ?_ ?_ ⟨1, b11, (10 * dB l 14 5 + (50 * (1 + dB l 13 9)) * (1 + dB l (16) 3)), [10 * dB l 14 5], rfl, rfl, rfl, rfl, oM, oM, (.one oM oM), oM⟩)))))))))))))
    rotate_left
    ·omega
    ·omega
    ·exact lL
    ·exact (.q (.cons _ (.q (.q (.q .slnil)))))
    rintro n hn j _ _ ⟨k, c, y, M, rfl, rfl, rfl, hM, hk1, hk, hB, hy⟩;have pa := eN (l := l) (i := 16 + k) (m := 3) dE;have pc := rE (x := (50 * (1 + dB l 13 9))) (y := 1 + dB l (16 + k) 3) (a := 50) (b := 450) (c := 1) (d := 3) oM oM dE dE;refine rQ (rS (kM J J (kM J J (kO J (aH J J (fun s1 h1 => eZ _ _ _ _ (15) _ s1 h1.wf oM (hl.ext hs h1.2.1) oM) (kO J (Y3 J J oM (kO J (W5 J J (fun h12 => ?_) (fun h12 => ?_))))))))))
    ·refine Q0 (Y0 J (Q1 (W0 (rQ (W1 (rS (kO J (Q2 J (kO J (Y1 J .h2 J (kM J J (kO J (bO J J J (fun b13 => (kO J (dI J J (iG.own .here rfl sM) .h1 (by simp [hM, bZ]) (.inl ⟨rfl, rfl⟩) dE oM oM (fun b14 => (kO J (Q2 J (kZ J (cX J J .h3 J J (Q0 (rI (kM J J (kM J J (kM J J (kM J J (kO J (Y3 J J oM (kO J (aH J J (fun s1 h1 => eZ _ _ _ _ (16 + k) _ s1 h1.wf oM (hl.ext hs h1.2.1) oM) (kO J (Y3 J J oM (kO J (bM J J oM ?_)))))))))))))))))))))))))))))))))))
     refine kO J (Y3 J J oM (kM J J (Q0 (Z1 (W0 (rI (kM J J (kO J (Y3 J J oM (kM J J (Q0 (W0 ?_))))))))))));exact ⟨rfl, _, _, _, (show 5 - (k + 1) < 5 - k from oM), lL, (.q (.cons _ (.q (.q (.q .slnil))))), ⟨k + 1, b14, (y + (50 * (1 + dB l 13 9)) * (1 + dB l (16 + k) 3)), M ++ [y], rfl, (by rw [pY]; rfl), rfl, (by simp [hM]), oM, oM, (hB.add oM oM), oM⟩⟩
    ·refine Q0 (U0 J (Y4 (Z2 (Z2 (Q3 (W0 (rS (kM J J (kO J (aH J J (fun s1 h1 => eZ _ _ _ _ (19) _ s1 h1.wf oM (hl.ext hs h1.2.1) oM) (kO J (bM J J oM (kM J J (kO J (aH J J (fun s1 h1 => eZ _ _ _ _ (20) _ s1 h1.wf oM (hl.ext hs h1.2.1) oM) (kO J (bM J J oM (kO J (Z6 J J (kO J (Q2 J (kZ J (Q6 J J .h2 J J J J (Q0 (rS (kO J (V4 J dE .h2 J (kZ J (Q6 J J .h3 J J J J (Q0 (V2 ?_)))))))))))))))))))))))))))))))
     subst hL;subst hM;refine ⟨rfl, [_], _, ⟨_, _, _, [], rfl, rfl, dE, ⟨_, _, _, .h3, rfl⟩, rfl⟩, (.q (.q (.cons _ (.cons _ .slnil)))), b, c, _, _, _, _, L, M, rfl, rfl, PQ oM oM oM oM hA oM hB oM oM oM⟩
   ·exfalso; omega
 ·exfalso; omega
end
theorem EO {m : Int} {ls : List (List Int)} (h : lJ m ls = 0) : m <= 64 /\ mV m ls = true := by
 unfold lJ at h;split at h
 ·split at h
  ·cases h
  ·split at h
   ·exact ⟨oM, aM⟩
   ·cases h
 ·cases h
def FZ (T : Nat -> Nat -> Int) (N : Nat) : Prop := ∀ a, a < N -> 0 <= T a a
theorem Ik {T : Nat -> Nat -> Int} {i : Nat} (h : ∀ a, a < i -> 0 <= T a a) (h2 : ¬ T i i < 0) : ∀ a, a < i + 1 -> 0 <= T a a := fun a ha => by
 by_cases q : a = i
 ·rw [q]; omega
 ·exact h a oM
def PB (x : List Int) (c : Int) : Prop := ∀ i : Nat, -c <= x.getD i 0 /\ x.getD i 0 <= c
theorem PB.add {x : List Int} {c d z : Int} (h : PB x c) (hc : c <= d) (hz : -d <= z /\ z <= d) (hd : 0 <= d) : PB (x ++ [z]) d := by
 intro i;have h1 := h i;rw [List.getD_eq_getElem?_getD] at h1 ⊢;rcases Nat.lt_or_ge i x.length with q | q
 ·rw [List.getElem?_append_left q]; omega
 ·rw [List.getElem?_append_right q]
  rcases Nat.eq_zero_or_pos (i - x.length) with e | e
  ·rw [e]; exact hz
  ·rw [List.getElem?_eq_none (by simp; omega)]
   show -d <= 0 /\ 0 <= d;omega
theorem PB.one {c : Int} (h : 0 <= c) : PB [0] c := fun i => by
 match i with
 | 0 => exact ⟨by show -c <= 0; omega, h⟩
 | i + 1 => exact ⟨by show -c <= 0; omega, h⟩
def Rt (a : Nat) (z f c : Int) : Prop := (a = 0 /\ z = f) ∨ (0 < a /\ -c <= z /\ z <= c)
def oC (l : List Int) (i : Nat) (m : Int) : Int := if l.length = 0 ∨ m < 1 then 0 else aN (l.getD (i % l.length) 0) m
theorem Il {l : List Int} {i : Nat} {m : Int} : 0 <= oC l i m /\ (oC l i m < m ∨ oC l i m = 0) := by
 unfold oC;split
 ·exact ⟨Int.le_refl _, .inr rfl⟩
 ·have := cU (x := l.getD (i % l.length) 0) (m := m) oM
  exact ⟨this.1, .inl this.2⟩
section
variable {X : FuncId -> List Value -> St -> (Value -> St -> Bool) -> Bool}
theorem B6 (n : Nat) (M : Nat) (al : Option Addr) (cl : Nat) (ls : List (List Int)) (s : St) (hs : Wf s) (hn : 1970324836974592 <= n) (hL : RowsE s 4 al ls) (hWB : lJ (M : Int) ls = 0 -> WB ls (M + 1)) : bW Tryz.prog (cA cH) X (n + 1700) 113 [.agg ⟨[.int .i64 (M : Int), .slice al ls.length cl]⟩] s (fun v A => (¬ lJ (M : Int) ls = 0 /\ v = .tuple #[.slice none 0 0, .int .i64 (lJ (M : Int) ls)] /\ A = []) ∨ (lJ (M : Int) ls = 0 /\ ¬ FZ (wm ls (M + 1) (M + 1)) (M + 1) /\ v = .tuple #[.slice none 0 0, .int .i64 23] /\ A = []) ∨ (lJ (M : Int) ls = 0 /\ FZ (wm ls (M + 1) (M + 1)) (M + 1) /\ ∃ b B, v = .tuple #[.slice (some ⟨b, 0, none⟩) (M + 1) (M + 1), .int .i64 0] /\ A = seg B (M + 1) (wm ls (M + 1) (M + 1)) (M + 1) ++ [.row b 22 false (mB B (M + 1) (M + 1) (M + 1))])) := by
 refine enter Hw rfl hs ?_;unfold DP;have hlen := hL.len;refine rS (kO J (bI J J J (fun b1 => (kM J J (kM J J (Q0 (rS (kO J (V4 J dE .here rfl (kO J (aH J J (fun s1 h1 => FL _ _ _ _ _ s1 h1.wf oM (hL.ext hs h1.2.1)) (kM J J (Q0 (rQ (rS (kM J J (kO J (V3 J J (fun h2 => ?_) (fun h2 => ?_)))))))))))))))))))
 ·refine Q0 (Y0 J (rS (kM J J (kM J J (kM J J (Q0 (V2 (W3 ?_))))))))
  exact tR J J (.inl ⟨oM, rfl, rfl⟩)
 ·have hsys : lJ (M : Int) ls = 0 := oM
  obtain ⟨hM64, hlm⟩ := EO hsys;have hM : M <= 64 := oM
  refine Q0 (U0 J (Q1 (W0 (rS (kO J (V4 J dE .here rfl (kO J (Z4 J J (fun s1 h1 => Ml _ M al cl ls s1 h1.wf oM (hL.ext hs h1.2.1) hM hlm (hWB hsys)) (fun v1 A1 q1 => ?_)))))))));obtain ⟨MR, Bw4, rfl, rfl⟩ := q1;rw [List.append_assoc, List.singleton_append];refine kM J J (Q0 (rQ (rS (kM J J (kG J J (bN J J HI rfl ?_))))));unfold D7;refine rS (kM J J (Q0 (rQ (rS (kM J J (kO J (dO J (kM J J (Q0 (W1 ?_))))))))));refine U4 (fun j e A => ∃ (i : Nat), e = [(0, .slice (some ⟨MR, 0, none⟩) (M + 1) (M + 1)), (4, .slice (some ⟨MR, 0, none⟩) (M + 1) (M + 1)), (5, .int .i64 ((M + 1 : Nat) : Int)), (6, .int .i64 (i : Int))] /\ A = (seg Bw4 (M + 1) (wm ls (M + 1) (M + 1)) (M + 1) ++ (.row MR 22 false (mB Bw4 (M + 1) (M + 1) (M + 1)) :: (.row b1 45 false ([.int .i64 (M : Int), .slice al ls.length cl]) :: []))) /\ j = M + 1 - i /\ i <= M + 1 /\ ∀ a, a < i -> 0 <= (wm ls (M + 1) (M + 1)) a a) 100 0 281474976710656 ?_ (j := _) (env2 := _) (A2 := _) ?_ ?_ ?_ ?_ ⟨0, rfl, rfl, rfl, Nat.zero_le _, (fun a ha => absurd ha (Nat.not_lt_zero a))⟩
  rotate_left
  ·omega
  ·omega
  ·exact lL
  ·exact (.r (.q (.q .slnil)))
  rintro n hn j _ _ ⟨i, rfl, rfl, rfl, hi, hsd⟩;refine rS (kO J (W5 J J (fun h5 => ?_) (fun h5 => ?_)))
  ·refine Q0 (rQ (Y0 J (Q1 (W0 (rQ (W1 (rS (kM J J (kM J J (Q0 (rS (kM J J (kM J J (kO J (Z3 (j := i) J J oM oM (kO J (Y1 J (.app .here) (fK oM oM) (kM J J (kO J (Z3 (j := i) J J oM oM (kO J (Q5 (x := (wm ls (M + 1) (M + 1)) (i) (i)) J (gR oM) (by rw [eF]; omega) (fS oM) (kO J (W5 J J (fun h6 => ?_) (fun h6 => ?_)))))))))))))))))))))))))
   ·refine Q0 (Y0 J (rS (kM J J (Q0 (V2 (Y6 (W3 (W3 (Y6 (W3 (lR J .nil (kO J (U6 J (Q0 (Y0 J (rS (kM J J (kM J J (Q0 (V2 (W3 ?_)))))))))))))))))))))
    exact tR J J (.inr (.inl ⟨hsys, fun q => by (have := q i oM; omega), rfl, rfl⟩))
   ·refine Q0 (U0 J (Q1 (Z1 (W0 (rI (kO J (Y3 J J oM (kM J J (Q0 (W0 ?_))))))))))
    exact ⟨rfl, _, _, _, (show M + 1 - (i + 1) < M + 1 - i from oM), lL, (.r (.q (.q .slnil))), ⟨i + 1, rfl, rfl, rfl, oM, (Ik hsd aM)⟩⟩
  ·refine Q0 (rQ (U0 J (Y4 (Z2 (Z2 (Q3 (W0 (rS (kM J J (Q0 (V2 (lR J .nil (kO J (U6 J (Q0 (U0 J (Q1 (W0 (rS (kM J J (kM J J (kM J J (Q0 (V2 ?_))))))))))))))))))))))))
   exact fC J J (.r (.q (.cons _ .slnil))) (.inr (.inr ⟨hsys, (fun a ha => hsd a oM), _, _, rfl, rfl⟩))
theorem Mo (n : Nat) (a : Option Addr) (cap : Nat) (l : List Int) (z : Int) (i : Nat) (m : Int) (s : St) (hs : Wf s) (hl : aI s a l) (hz : z = (i : Int)) (hm : -4000000000 <= m /\ m <= 4000000000) : bW Tryz.prog (cA cH) X (n + 100) 158 [.slice a l.length cap, .int .i64 z, .int .i64 m] s (fun v A => v = .int .i64 (oC l i m) /\ A = []) := by
 refine enter HJ rfl hs ?_;unfold D8;subst hz;have hlen := hl.len;refine rS (kM J J (Q0 (rQ (rS (kM J J (kO J (aJ J hl.spot (kO J (bS J J (fun h1 => ?_) (fun h1 => ?_))))))))))
 ·refine kM J J (V0 J J (V0 J J (kO J (W2 J J J (Q0 (Y0 J (rS (kM J J (Q0 (V2 (W3 (aV J ⟨congrArg (Value.int .i64) ?_, rfl⟩))))))))))))
  unfold oC
  first | (rw [if_pos oM]; done) | (rw [if_neg oM]; done) | (rw [if_neg oM]; rfl)
 ·refine kM J J (kG J J (U2 J (kG J J (W5 J J (fun h2 => ?_) (fun h2 => ?_)))))
  ·refine kO J (U1 J J J (Q0 (Y0 J (rS (kM J J (Q0 (V2 (W3 (aV J ⟨congrArg (Value.int .i64) ?_, rfl⟩)))))))))
   unfold oC
   first | (rw [if_pos oM]; done) | (rw [if_neg oM]; done) | (rw [if_neg oM]; rfl)
  ·have hmd : i % l.length < l.length := Nat.mod_lt _ oM
   have hq := vU (x := l.getD (i % l.length) 0) (m := m) oM;refine kO J (U1 J J J (Q0 (U0 J (Q1 (W0 (rS (kM J J (kM J J (kM J J (kO J (aJ J hl.spot (kO J (zN J J oM (kO J (Q7 (j := i % l.length) hl rfl rfl rfl sM oM (fun _ _ a99 => (kO J (W6 J (hl.at a99 oM) (kM J J (kO J (zN J J oM (kM J J (kO J (Y3 J J oM (kM J J (kO J (zN J J oM (kM J J (Q0 (V2 (aV J ⟨congrArg (Value.int .i64) ?_, rfl⟩)))))))))))))))))))))))))))))));unfold oC
   first | (rw [if_pos oM]; done) | (rw [if_neg oM]; done) | (rw [if_neg oM]; rfl)
theorem Im (n : Nat) (M : Nat) (al : Option Addr) (cl : Nat) (ls : List (List Int)) (ap : Option Addr) (cpk : Nat) (ps : List Int) (s : St) (hs : Wf s) (hn : 2533274790395904 <= n) (hL : RowsE s 4 al ls) (hWB : lJ (M : Int) ls = 0 -> WB ls (M + 1)) (hFuS : lJ (M : Int) ls = 0 -> Fu (wm ls (M + 1) (M + 1)) (M + 1)) (hP : aI s ap ps) : bW Tryz.prog (cA cH) X (n + 1900) 115 [.agg ⟨[.int .i64 (M : Int), .slice al ls.length cl]⟩, .slice ap ps.length cpk] s (fun v A => (¬ lJ (M : Int) ls = 0 /\ v = .tuple #[.slice none 0 0, .int .i64 (lJ (M : Int) ls)] /\ A = []) ∨ (lJ (M : Int) ls = 0 /\ ¬ FZ (wm ls (M + 1) (M + 1)) (M + 1) /\ v = .tuple #[.slice none 0 0, .int .i64 23] /\ A = []) ∨ (lJ (M : Int) ls = 0 /\ FZ (wm ls (M + 1) (M + 1)) (M + 1) /\ ∃ b op cq x, v = .tuple #[.slice (some ⟨b, 0, none⟩) (M + 1) cq, .int .i64 0] /\ A = [.row b 3 op (ints x)] /\ x.length = M + 1 /\ PB x 163840000 /\ zP op (M + 1) cq)) := by
 refine enter Hx rfl hs ?_;unfold DQ;have hlen := hL.len;have hlenP := hP.len;refine rS (kO J (bI J J J (fun b1 => (kM J J (kM J J (Q0 (rS (kO J (V4 J dE .here rfl (kO J (Z4 J J (fun s1 h1 => B6 _ M al cl ls s1 h1.wf oM (hL.ext hs h1.2.1) hWB) (fun v1 A1 q1 => ?_))))))))))));rcases q1 with ⟨hc1, rfl, rfl⟩ | ⟨hc1, hc2, rfl, rfl⟩ | ⟨hc1, hc2, q1⟩
 ·have hsys := hc1
  refine kM J J (kO J (V1 J J (kO J (V1 J J (kM J J (kM J J (Q0 (rQ (rS (kM J J (kO J (V3 J J (fun h4 => ?_) (fun h4 => ?_)))))))))))))
  ·refine Q0 (Y0 J (rS (kM J J (kM J J (kM J J (Q0 (V2 (W3 ?_))))))))
   exact tR J J (.inl ⟨oM, rfl, rfl⟩)
  ·exfalso; omega
 ·refine kM J J (kO J (V1 J J (kO J (V1 J J (kM J J (kM J J (Q0 (rQ (rS (kM J J (kO J (V3 J J (fun _ => (Q0 (Y0 J (rS (kM J J (kM J J (kM J J (Q0 (V2 (W3 ?_)))))))))) (fun h => absurd h dE)))))))))))))
  exact tR J J (.inr (.inl ⟨hc1, hc2, rfl, rfl⟩))
 ·obtain ⟨bw2, Bw3, rfl, rfl⟩ := q1
  rw [List.append_assoc, List.singleton_append];obtain ⟨hM64, hlm⟩ := EO hc1;have hM : M <= 64 := oM
  have hFu := hFuS hc1;refine kM J J (kO J (V1 J J (kO J (V1 J J (kM J J (kM J J (Q0 (rQ (rS (kM J J (kO J (V3 J J (fun h => absurd h dE) (fun _ => (Q0 (U0 J (Q1 (W0 (rS (kO J (bO J J J (fun b7 => (kM J J (Q0 (rQ (rS (kM J J (Q0 (W1 ?_))))))))))))))))))))))))))));refine U4 (fun j e A => ∃ (w b cp : Nat) (op : Bool) (xs : List Int), e = [(1, .slice ap ps.length cpk), (2, .pointer (some ⟨b1, 0, none⟩)), (6, .slice (some ⟨bw2, 0, none⟩) (M + 1) (M + 1)), (8, .slice (some ⟨b, 0, none⟩) (w + 1) cp), (9, .int .i64 ((w + 1 : Nat) : Int))] /\ A = (.row b 3 op (ints xs) :: (seg Bw3 (M + 1) (wm ls (M + 1) (M + 1)) (M + 1) ++ (.row bw2 22 false (mB Bw3 (M + 1) (M + 1) (M + 1)) :: (.row b1 45 false ([.int .i64 (M : Int), .slice al ls.length cl]) :: [])))) /\ j = M - w /\ w <= M /\ xs.length = w + 1 /\ FT op cp w /\ PB xs ((w : Int) * 2560000)) 500 562949953421312 281474976710656 ?_ (j := _) (env2 := _) (A2 := _) ?_ ?_ ?_ ?_ ⟨0, b7, 1, false, [0], rfl, rfl, rfl, Nat.zero_le _, rfl, (.inr ⟨rfl, rfl, rfl⟩), (PB.one dE)⟩
  rotate_left
  ·omega
  ·omega
  ·exact lL
  ·exact (.q (.r (.q (.q .slnil))))
  rintro n hn j _ _ ⟨w, b, cp, op, xs, rfl, rfl, rfl, hj, hxl, hT, hB⟩;have hjM : (w : Int) <= 64 := oM
  refine rQ (rS (kM J J (kO J (Q2 J (kO J (Y1 J (.next (.app .h1)) J (kO J (fG J J (fun h8 => ?_) (fun h8 => ?_)))))))))
  ·refine Q0 (Y0 J (Q1 (W0 (rQ (W1 (rS (kM J J (Q0 (rS (kM J J (Q0 (rQ (rS (kM J J (kO J (dO J (kM J J (Q0 (W1 ?_)))))))))))))))))))
   refine U4 (fun j e A => ∃ (a : Nat) (lo hi : Int), e = [(1, .slice ap ps.length cpk), (2, .pointer (some ⟨b1, 0, none⟩)), (6, .slice (some ⟨bw2, 0, none⟩) (M + 1) (M + 1)), (8, .slice (some ⟨b, 0, none⟩) (w + 1) cp), (9, .int .i64 ((w + 1 : Nat) : Int)), (10, .int .i64 lo), (11, .int .i64 hi), (30, .int .i64 ((w + 1 : Nat) : Int)), (31, .int .i64 (a : Int))] /\ A = (.row b 3 op (ints xs) :: (seg Bw3 (M + 1) (wm ls (M + 1) (M + 1)) (M + 1) ++ (.row bw2 22 false (mB Bw3 (M + 1) (M + 1) (M + 1)) :: (.row b1 45 false ([.int .i64 (M : Int), .slice al ls.length cl]) :: [])))) /\ j = w + 1 - a /\ a <= w + 1 /\ Rt a lo (-1000000000) (((w : Int) + 1) * 2560000) /\ Rt a hi 1000000000 (((w : Int) + 1) * 2560000)) 200 0 281474976710656 ?_ (j := _) (env2 := _) (A2 := _) ?_ ?_ ?_ ?_ ⟨0, _, _, rfl, rfl, rfl, Nat.zero_le _, (.inl ⟨rfl, rfl⟩), (.inl ⟨rfl, rfl⟩)⟩
   rotate_left
   ·omega
   ·omega
   ·exact lL
   ·exact (.q (.r (.q (.q .slnil))))
   rintro n hn j _ _ ⟨a, lo, hi, rfl, rfl, rfl, ha, hlo, hhi⟩;refine rS (kO J (W5 J J (fun h9 => ?_) (fun h9 => ?_)))
   ·have hf1 := hFu (w + 1) a oM oM
    have hf2 := hFu a (w + 1) oM oM;unfold Cm at hf1 hf2;have hxa := hB a;unfold Rt at hlo hhi;refine Q0 (rQ (Y0 J (Q1 (W0 (rQ (W1 (rS (kM J J (kM J J (Q0 (rQ (rS (kM J J (kM J J (kO J (Z3 (j := w + 1) J J oM oM (kO J (Y1 J (.next (.app .here)) (fK oM oM) (kM J J (kO J (Z3 (j := a) J J oM oM (kO J (Q5 (x := (wm ls (M + 1) (M + 1)) (w + 1) (a)) J (.next (gR oM)) (by rw [eF]; omega) (fS oM) (kO J (V3 J J (fun h10 => ?_) (fun h10 => ?_))))))))))))))))))))))))))
    ·refine Q0 (Y0 J (rI (kM J J (kM J J (kM J J (kO J (Z3 (j := a) J J oM oM (kO J (mP J .here (by first | omega | (simp; done) | (simp; omega)) (kM J J (kM J J (kO J (Z3 (j := w + 1) J J oM oM (kO J (Y1 J (.next (.app .here)) (fK oM oM) (kM J J (kO J (Z3 (j := a) J J oM oM (kO J (Q5 (x := (wm ls (M + 1) (M + 1)) (w + 1) (a)) J (.next (gR oM)) (by rw [eF]; omega) (fS oM) (kO J (bX J J oM (kO J (HR J (kM J J (Q0 (W0 (rS (kM J J (kM J J (kO J (Z3 (j := a) J J oM oM ?_))))))))))))))))))))))))))))))))
     refine kO J (Y1 J (.next (.app .here)) (fK oM oM) (kM J J (kO J (Z3 (j := w + 1) J J oM oM (kO J (Q5 (x := (wm ls (M + 1) (M + 1)) (a) (w + 1)) J (.next (gR oM)) (by rw [eF]; omega) (fS oM) (kO J (V3 J J (fun h11 => ?_) (fun h11 => ?_)))))))))
     ·refine Q0 (Y0 J (rI (kM J J (kM J J (kM J J (kO J (Z3 (j := a) J J oM oM (kO J (mP J .here (by first | omega | (simp; done) | (simp; omega)) (kM J J (kM J J (kO J (Z3 (j := a) J J oM oM (kO J (Y1 J (.next (.app .here)) (fK oM oM) (kM J J (kO J (Z3 (j := w + 1) J J oM oM (kO J (Q5 (x := (wm ls (M + 1) (M + 1)) (a) (w + 1)) J (.next (gR oM)) (by rw [eF]; omega) (fS oM) (kO J (Y3 J J oM (kO J (sH J (kM J J (Q0 (Z1 (W0 (rI (kO J (Y3 J J oM (kM J J ?_))))))))))))))))))))))))))))))))
      refine Q0 (W0 ?_);exact ⟨rfl, _, _, _, (show w + 1 - (a + 1) < w + 1 - a from oM), lL, (.q (.r (.q (.q .slnil)))), ⟨a + 1, _, _, rfl, rfl, rfl, oM, (.inr oM), (.inr oM)⟩⟩
     ·exfalso; omega
    ·exfalso; omega
   ·have haj : a = w + 1 := oM
    subst haj;unfold Rt at hlo hhi;refine Q0 (rQ (U0 J (Y4 (Z2 (Z2 (Q3 (W0 (rS (kM J J (Q0 (rQ (W1 (rS (kM J J (kO J (V3 J J (fun h12 => ?_) (fun h12 => ?_)))))))))))))))))
    ·refine kM J J (kG J J (U2 J (kG J J (V3 J J (fun h13 => ?_) (fun h13 => ?_)))))
     ·refine kO J (W2 J J J (kM J J (Q0 (Y0 J (rI (kM J J (kM J J (kM J J (kO J (bX J J oM (kM J J (kM J J (kO J (bX J J oM (kO J (Y3 J J oM (kO J (aH J J (fun s1 h1 => Mo _ _ _ _ _ w _ s1 h1.wf (hP.ext hs h1.2.1) oM oM) ?_))))))))))))))))))
      have hpk := Il (l := ps) (i := w) (m := hi - lo + 1);refine kO J (Y3 J J oM (kM J J (Q0 (Z1 (W0 (rI (kM J J (kM J J (kO J (bO J J J (fun b14 => (kO J (dI J J (iG.own .here rfl sM) .h1 (by rw [bZ, hxl, Nat.mul_one]) (B4 hT) dE oM oM (fun b15 => (kM J J (Q0 (Z1 (W0 (rI (kM J J (kO J (Y3 J J oM (kM J J (Q0 (W0 ?_)))))))))))))))))))))))));exact ⟨rfl, _, _, _, (show M - (w + 1) < M - w from oM), lL, (.q (.cons _ (.r (.q (.q .slnil))))), ⟨w + 1, b15, _, _, xs ++ [lo + oC ps w (hi - lo + 1)], rfl, (by rw [pY]; rfl), rfl, oM, (by simp [hxl]), (.inl ⟨rfl, rfl⟩), (hB.add oM oM oM)⟩⟩
     ·exfalso; omega
    ·exfalso; omega
  ·refine Q0 (U0 J (Y4 (Z2 (Z2 (Q3 (W0 (rS (kM J J (kM J J (kM J J (Q0 (V2 ?_))))))))))))
   have hjM2 : w = M := oM
   subst hjM2;exact fC J J (.q (sR (.cons _ (.cons _ .slnil)))) (.inr (.inr ⟨hc1, hc2, _, _, _, _, rfl, rfl, hxl, (fun i => by (have := hB i; omega)), B4 hT⟩))
end
end Ev
end Go.Proofs.YtjkdkpckjgaplaaGreat
