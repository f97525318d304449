import Derived.Test.YtjkdkpckjgaplaaGreatZh16
import Derived.RowKit
import Derived.Lib.SlicesCompact
import Derived.Test.YtjkdkpckjgaplaaGreatProg
import Derived.Sort.OwnSortedInts
import Derived.Lib.OwnBridge
import Derived.Outline
import Derived.WalkKit
import Derived.WalkSpells
import Derived.WalkLawsBesides
import Derived.IntWalk
import Derived.Deep.QuietTactic
import Derived.BigQuiet
import Derived.Test.YtjkdkpckjgaplaaGreatZh10
import Derived.Test.YtjkdkpckjgaplaaGreatZh15
import Derived.Test.YtjkdkpckjgaplaaGreatZh09
set_option linter.unusedVariables false
set_option linter.unusedSimpArgs false
namespace Go.Proofs.YtjkdkpckjgaplaaGreat
open Go Go.RowKit
namespace Ev
theorem C8 {P : Program} {C : Nat -> (CF -> Bool) -> Bool} {X : FuncId -> List Value -> St -> (Value -> St -> Bool) -> Bool} {s0 : St} {n nt : Nat} {r : Option Nat} {env : List (Nat × Value)} {D : List Nat} {A : List Ob} {Q : fT -> List (Nat × Value) -> List Nat -> List Ob -> Prop} {a b : CC} (I : List (Nat × Value) -> List Ob -> Prop)
 (ha : dS P C X s0 n nt r a env D A (uS (fun e' D' A' => D' = D /\ ∃ e2 A2, gH e' e2 /\ A2.Sublist A' /\ I e2 A2) Q)) (hb : ∀ e A, I e A -> dS P C X s0 n nt r b e D A Q) : dS P C X s0 (n + 1) nt r (.seq a b) env D A Q := .mk fun s hs =>
 DC ((ha.go s hs).mono (fun x e D' s' hq => by
  obtain ⟨A', h1, h2⟩ := hq;cases x with
  | normal =>
   obtain ⟨h5, e2, A2, h7, h8, h9⟩ := h2;subst h5;exact ((dS.less h7 h8 (hb e2 A2 h9)).go s' h1)
  | ret => exact ⟨A', h1, h2⟩
  | exit i => exact ⟨A', h1, h2⟩
  | goto i => exact ⟨A', h1, h2⟩))
theorem sT {P : Program} {C : Nat -> (CF -> Bool) -> Bool} {X : FuncId -> List Value -> St -> (Value -> St -> Bool) -> Bool} {s0 : St} {n nt : Nat} {l : List Item} {env : List (Nat × Value)} {A A' : List Ob} {Q : List (Nat × Value) -> List Ob -> Prop} {x : Ob} (hd : eJ A x A') (h : zM P C X s0 n nt l env (x :: A') Q) : zM P C X s0 n nt l env A Q := .mk fun s hs => h.go s (hs.front hd)
def fM (rs : List (List Int)) (i k : Nat) (v : Int) : List (List Int) := rs.set i ((rs.getD i []).set k v)
theorem aY {rs : List (List Int)} {i k : Nat} {v : Int} : (fM rs i k v).length = rs.length := by unfold fM; rw [List.length_set]
theorem B7 {rs : List (List Int)} {i k : Nat} {v : Int} {r : List Int} (h : r ∈ fM rs i k v) (hi : i < rs.length) : r ∈ rs ∨ ∃ q ∈ rs, r = q.set k v := by
 unfold fM at h;rcases List.mem_or_eq_of_mem_set h with h | h
 ·exact .inl h
 ·refine .inr ⟨rs.getD i [], ?_, h⟩
  rw [List.getD_eq_getElem?_getD, List.getElem?_eq_getElem hi];exact List.getElem_mem hi
theorem fL {w : Nat} {rs : List (List Int)} {i k : Nat} {v : Int} (hw : Wd w rs) (hi : i < rs.length) (hv : I64 v) : Wd w (fM rs i k v) := by
 refine ⟨fun r hr => ?_, fun r hr x hx => ?_⟩
 ·rcases B7 hr hi with h | ⟨q, h, rfl⟩
  ·exact hw.len r h
  ·rw [List.length_set]; exact hw.len q h
 ·rcases B7 hr hi with h | ⟨q, h, rfl⟩
  ·exact hw.fit r h x hx
  ·rcases List.mem_or_eq_of_mem_set hx with h2 | h2
   ·exact hw.fit q h x h2
   ·rw [h2]; exact hv
theorem dM {w : Nat} {rs : List (List Int)} {i k : Nat} {v : Int} {z : List Value} (hw : ∀ r ∈ rs, r.length = w) (hi : i < rs.length) (hk : k < w) : (aL rs ++ z).set (0 + i * w + k) (.int .i64 v) = aL (fM rs i k v) ++ z := by
 obtain ⟨r, hr⟩ : ∃ r, r = rs[i] := ⟨_, rfl⟩;have e1 : rs = rs.take i ++ [r] ++ rs.drop (i + 1) := by
  rw [List.append_assoc, List.singleton_append, hr, <- List.drop_eq_getElem_cons hi, List.take_append_drop]
 have hrl : r.length = w := by rw [hr]; exact hw _ (List.getElem_mem hi)
 have e2 : fM rs i k v = rs.take i ++ [r.set k v] ++ rs.drop (i + 1) := by
  unfold fM;rw [Sv.getD_of (List.getElem?_eq_getElem hi), List.set_eq_take_append_cons_drop, if_pos hi, List.append_assoc, List.singleton_append, hr]
 have hl : (aL (rs.take i)).length = i * w := by
  rw [aA (w := w) (fun r hr => hw r (List.mem_of_mem_take hr)), List.length_take, Nat.min_eq_left oM]
 have e3 : ∀ q : List Int, aL [q] = q.map (Value.int .i64) := fun q => by
  show q.map (Value.int .i64) ++ [] = _;rw [List.append_nil]
 rw [e2]
 conv => lhs; rw [e1]
 rw [dA, dA, dA, dA, List.append_assoc, List.append_assoc, List.append_assoc, List.append_assoc, Nat.zero_add, List.set_append_right _ _ (by rw [hl]; omega), hl, Nat.add_sub_cancel_left, e3, e3, List.set_append_left _ _ (by rw [List.length_map, hrl]; exact hk), List.map_set]
theorem IC {rs : List (List Int)} {k : Nat} {x0 x1 x2 x3 x4 x5 x6 : Int} (hw : Wd 7 rs) (h : rs[k]? = some [x0, x1, x2, x3, x4, x5, x6]) : I64 x0 /\ I64 x1 /\ I64 x2 /\ I64 x3 /\ I64 x4 /\ I64 x5 /\ I64 x6 := by
 have hf := hw.fit _ (List.mem_of_getElem? h);exact ⟨hf _ sM, hf _ sM, hf _ sM, hf _ sM, hf _ sM, hf _ sM, hf _ sM⟩
theorem wA {x : Int} {m : Nat} (h : 0 < m) : ∃ i : Nat, aN x (m : Int) = (i : Int) /\ i < m := by
 have h1 := cU (x := x) (m := (m : Int)) oM;exact ⟨(aN x (m : Int)).toNat, oM, oM⟩
def Fl (l : List Int) : Prop := ∀ z ∈ l, -9223372036854775808 <= z /\ z < 9223372036854775808
theorem Fl.set {l : List Int} {i : Nat} {v : Int} (h : Fl l) (hv : I64 v) : Fl (l.set i v) := fun z hz => by
 rcases List.mem_or_eq_of_mem_set hz with q | q
 ·exact h z q
 ·rw [q]; exact hv
def SF (d r al up : Int) (l1 l2 : List Int) : Prop := I64 d /\ I64 r /\ I64 al /\ I64 up /\ Fl l1 /\ Fl l2 /\ 1 <= l1.length /\ l1.length <= 4 /\ 1 <= l2.length /\ l2.length <= 3
section
variable {X : FuncId -> List Value -> St -> (Value -> St -> Bool) -> Bool}
set_option maxHeartbeats 4000000 in
set_option maxRecDepth 100000 in
theorem ID (n : Nat) (aS aQ aC aP : Option Addr) (cS cQ cC cP : Nat) (lS : List Int) (qs ts : List (List Int)) (ps : List Int) (g0 g1 g2 : Int) (s : St) (hs : Wf s) (hn : 16888498602639360 <= n) (hS : aI s aS lS) (hQ : RowsE s 5 aQ qs) (hT : RowsE s 4 aC ts) (hP : aI s aP ps) (hg0 : I64 g0) (hg1 : I64 g1) (hg2 : I64 g2) : bW Tryz.prog (cA cH) X (n + 10000) 7 [.agg ⟨[.slice aS lS.length cS, .slice aQ qs.length cQ, .slice aC ts.length cC, .slice aP ps.length cP, .int .i64 g0, .int .i64 g1, .int .i64 g2]⟩] s (fun v A => ∃ bm1 bm2 d r al up l1 l2 aF cF FU rs aD cD CU cs, v = .agg ⟨[.int .i64 d, .int .i64 r, .slice (some ⟨bm1, 0, none⟩) l1.length OPEN, .slice (some ⟨bm2, 0, none⟩) l2.length OPEN, .int .i64 al, .int .i64 up, .slice aF rs.length cF, .slice aD cs.length cD]⟩ /\ A = FU ++ (CU ++ [.row bm2 3 true (ints l2), .row bm1 3 true (ints l1)]) /\ SF d r al up l1 l2 /\ rH 89 7 aF rs.length cF rs FU /\ rH 91 6 aD cs.length cD cs CU /\ Wd 7 rs /\ Wd 6 cs /\ rs.length <= 15 /\ cs.length <= 5) := by
 refine enter N0 rfl hs ?_;unfold Qa;have hlen1 := hS.len;have hlen2 := hQ.len;have hlen3 := hT.len;have hlen4 := hP.len;refine rS (kO J (bI J J J (fun b1 => (kO J (bG J J (fun b2 => (Q0 (rS (kO J (V4 J dE .h1 J (kO J (Z4 J J (fun s1 h1 => Om _ _ _ _ _ _ _ _ _ lS qs ts ps g0 g1 g2 s1 h1.wf oM (hS.ext hs h1.2.1) (hQ.ext hs h1.2.1) (hT.ext hs h1.2.1) (hP.ext hs h1.2.1)) (fun v1 A1 q1 => ?_)))))))))))));obtain ⟨bm1, bm2, d, r, al, up, l1, l2, aF, cF, RU, rs, aD, cD, CU, cs, bY, ys, rfl, rfl, hMS, hU, hV, hWv, hWc, hrd, hcp, hr14, hc5, hyl, hyb⟩ := q1;rw [List.cons_append, List.append_assoc, List.append_assoc];obtain ⟨hspf2, hq1, hq2, hA1, hA2⟩ := hMS;obtain ⟨hsd, hsr, hsa, hsu, hpl⟩ := hspf2;have hp1 := fJ hpl;have hp2 := iX hpl;have h21 := hp1.h2;have h22 := hp2.h2;have hf1 := vX hA1 dE;have hf2 := vX hA2 dE;have hsf : SF d r al up l1 l2 := ⟨⟨oM, oM⟩, ⟨oM, oM⟩, ⟨oM, oM⟩, ⟨oM, oM⟩, hf1, hf2, oM, hq1, oM, hq2⟩;clear hp1 hp2 hf1 hf2 hA1 hA2 hpl;have hspm1 : ∀ b, (some ⟨bm1, 0, none⟩ : Option Addr) = some b -> b.spot = none := fun b hb => by cases hb; rfl
 have hspm2 : ∀ b, (some ⟨bm2, 0, none⟩ : Option Addr) = some b -> b.spot = none := fun b hb => by cases hb; rfl
 have hspR := hU.spot;have hspC := hV.spot;refine kM J J (kO J (V1 J J (kO J (V1 J J (kO J (bG J J (fun b3 => (kZ J (Q6 J J .here rfl rfl rfl rfl (kM J J (Q0 (rS (kO J (Q2 J (kO J (V4 J dE (.next (.next (.app (.app .h3)))) J (kO J (bG J J (fun b4 => (kZ J (Q6 J J .here rfl rfl rfl rfl (Q0 (rS (kO J (bQ (j := 0) J J dE dE (kO J (Y1 J .here rfl (kO J (aH J J (fun s1 h1 => eI _ _ _ s1 h1.wf oM) (kM J J (Q0 (C8 (fun e A => ∃ (w6 d8 r8 al8 up8 : Int) (m1 m2 : List Int), e = [(2, .pointer (some ⟨b2, 0, none⟩)), (3, .pointer (some ⟨b3, 0, none⟩)), (5, .pointer (some ⟨b4, 0, none⟩)), (6, .int .i64 w6)] /\ A = (.row b4 25 false ([.int .i64 g0, .int .i64 g1, .int .i64 g2]) :: (.row b3 37 false ([.int .i64 d8, .int .i64 r8, .slice (some ⟨bm1, 0, none⟩) m1.length OPEN, .slice (some ⟨bm2, 0, none⟩) m2.length OPEN, .int .i64 al8, .int .i64 up8, .slice aF rs.length cF, .slice aD cs.length cD]) :: (RU ++ (CU ++ (.row bm2 3 true (ints m2) :: (.row bm1 3 true (ints m1) :: (.row b2 37 false ([.int .i64 0, .int .i64 0, .slice none 0 0, .slice none 0 0, .int .i64 0, .int .i64 0, .slice none 0 0, .slice none 0 0]) :: []))))))) /\ SF d8 r8 al8 up8 m1 m2) ?_ ?_))))))))))))))))))))))))))))))))
 ·refine rS (kM J J (Q0 (W1 (rS (kO J (bS J J (fun h5 => ?_) (fun h5 => ?_)))))))
  ·refine kM J J (Q0 (Y0 J (rI (kO J (bQ (j := 2) J J dE dE (kO J (Y1 J .here rfl (kO J (Q2 J (kO J (Q2 J (kZ J (cX J J .h1 J J (Q0 (Z1 (W0 ?_))))))))))))))))
   exact ⟨rfl, _, _, lL, (.q (.q (.cons _ (.r (.r (.q (.q (.q (.cons _ .slnil))))))))), ⟨_, g2, r, al, up, l1, l2, rfl, rfl, ⟨hg2, hsf.2⟩⟩⟩
  ·refine kM J J (Q0 (U0 J (rS (kO J (bS J J (fun h6 => ?_) (fun h6 => ?_))))))
   ·refine kM J J (Q0 (Y0 J (rI (kO J (bQ (j := 2) J J dE dE (kO J (Y1 J .here rfl (kO J (Q2 J (kO J (Q2 J (kZ J (cX J J .h1 J J (Q0 (Z1 (W0 ?_))))))))))))))))
    exact ⟨rfl, _, _, lL, (.q (.q (.cons _ (.r (.r (.q (.q (.q (.cons _ .slnil))))))))), ⟨_, d, g2, al, up, l1, l2, rfl, rfl, ⟨hsf.1, hg2, hsf.2.2⟩⟩⟩
   ·refine kM J J (Q0 (U0 J (rS (kO J (bS J J (fun h7 => ?_) (fun h7 => ?_))))))
    ·refine kM J J (Q0 (Y0 J (rI (kO J (Q2 J (kO J (Q2 J (kO J (Y1 J .h1 J (kO J (bQ (j := 1) J J dE dE (kO J (Y1 J .here rfl (kO J (Q2 J (kO J (Q2 J (kO J (Y1 J .h1 J (kO J (dO J (kO J (bQ (j := 2) J J dE dE (kO J (Y1 J .here rfl (kO J (aH J J (fun s1 h1 => eI _ _ _ s1 h1.wf oM) ?_)))))))))))))))))))))))))))
     obtain ⟨i1, hi1, hiL1⟩ := wA (x := g1) (m := l1.length) oM;rw [hi1];refine kZ J (aK J J .here rfl (by simp [eqV, eqA, eqL, kindEq, aB, V5 hspm1, V5 hspm2, V5 hspR, V5 hspC]) (kZ J (aK J J .h1 J (by simp [eqV, eqA, eqL, kindEq, aB, V5 hspm1, V5 hspm2, V5 hspR, V5 hspC]) (kO J (Z3 (j := i1) J J oM oM (kZ J (W7 J J (.next (.next (.next (.app (.app .h1))))) (by first | omega | (simp; done) | (simp [eE]; omega) | (simp; omega)) (Q0 (Z1 (W0 ?_))))))))));have hls : (l1.set i1 g2).length = l1.length := List.length_set;exact ⟨rfl, _, _, lL, (.q (.q (.cons _ (.r (.r (.q (.q (.q (.cons _ .slnil))))))))), ⟨_, d, r, al, up, (l1.set i1 g2), l2, rfl, (by rw [List.length_set]; rfl), ⟨hsf.1, hsf.2.1, hsf.2.2.1, hsf.2.2.2.1, hsf.2.2.2.2.1.set hg2, hsf.2.2.2.2.2.1, by rw [List.length_set]; exact hsf.2.2.2.2.2.2.1, by rw [List.length_set]; exact hsf.2.2.2.2.2.2.2.1, hsf.2.2.2.2.2.2.2.2⟩⟩⟩
    ·refine kM J J (Q0 (U0 J (rS (kO J (bS J J (fun h8 => ?_) (fun h8 => ?_))))))
     ·refine kM J J (Q0 (Y0 J (rI (kO J (Q2 J (kO J (Q2 J (kO J (Y1 J .h1 J (kO J (bQ (j := 1) J J dE dE (kO J (Y1 J .here rfl (kO J (Q2 J (kO J (Q2 J (kO J (Y1 J .h1 J (kO J (dO J (kO J (bQ (j := 2) J J dE dE (kO J (Y1 J .here rfl (kO J (aH J J (fun s1 h1 => eI _ _ _ s1 h1.wf oM) ?_)))))))))))))))))))))))))))
      obtain ⟨i1, hi1, hiL1⟩ := wA (x := g1) (m := l2.length) oM;rw [hi1];refine kZ J (aK J J .here rfl (by simp [eqV, eqA, eqL, kindEq, aB, V5 hspm1, V5 hspm2, V5 hspR, V5 hspC]) (kZ J (aK J J .h1 J (by simp [eqV, eqA, eqL, kindEq, aB, V5 hspm1, V5 hspm2, V5 hspR, V5 hspC]) (kO J (Z3 (j := i1) J J oM oM (kZ J (W7 J J (.next (.next (.next (.app (.app .here))))) (by first | omega | (simp; done) | (simp [eE]; omega) | (simp; omega)) (Q0 (Z1 (W0 ?_))))))))));have hls : (l2.set i1 g2).length = l2.length := List.length_set;exact ⟨rfl, _, _, lL, (.q (.q (.cons _ (.r (.r (.q (.q (.q (.cons _ .slnil))))))))), ⟨_, d, r, al, up, l1, (l2.set i1 g2), rfl, (by rw [List.length_set]; rfl), ⟨hsf.1, hsf.2.1, hsf.2.2.1, hsf.2.2.2.1, hsf.2.2.2.2.1, hsf.2.2.2.2.2.1.set hg2, hsf.2.2.2.2.2.2.1, hsf.2.2.2.2.2.2.2.1, by rw [List.length_set]; exact hsf.2.2.2.2.2.2.2.2.1, by rw [List.length_set]; exact hsf.2.2.2.2.2.2.2.2.2⟩⟩⟩
     ·refine kM J J (Q0 (U0 J (rS (kO J (bS J J (fun h9 => ?_) (fun h9 => ?_))))))
      ·refine kM J J (Q0 (Y0 J (rI (kO J (bQ (j := 2) J J dE dE (kO J (Y1 J .here rfl (kO J (Q2 J (kO J (Q2 J (kO J (Q2 J (kZ J (cX J J .h1 J J (Q0 (Z1 (W0 ?_))))))))))))))))))
       exact ⟨rfl, _, _, lL, (.q (.q (.cons _ (.r (.r (.q (.q (.q (.cons _ .slnil))))))))), ⟨_, d, r, g2, up, l1, l2, rfl, rfl, ⟨hsf.1, hsf.2.1, hg2, hsf.2.2.2⟩⟩⟩
      ·refine kM J J (Q0 (U0 J (rS (kO J (bS J J (fun h10 => ?_) (fun h10 => ?_))))))
       ·refine kM J J (Q0 (Y0 J (rI (kO J (bQ (j := 2) J J dE dE (kO J (Y1 J .here rfl (kO J (Q2 J (kO J (Q2 J (kO J (Q2 J (kZ J (cX J J .h1 J J (Q0 (Z1 (W0 ?_))))))))))))))))))
        exact ⟨rfl, _, _, lL, (.q (.q (.cons _ (.r (.r (.q (.q (.q (.cons _ .slnil))))))))), ⟨_, d, r, al, g2, l1, l2, rfl, rfl, ⟨hsf.1, hsf.2.1, hsf.2.2.1, hg2, hsf.2.2.2.2⟩⟩⟩
       ·refine kM J J (Q0 (U0 J (Q1 (Z1 (W0 ?_)))))
        exact ⟨rfl, _, _, lL, (.q (.q (.cons _ (.r (.r (.q (.q (.q (.cons _ .slnil))))))))), ⟨_, d, r, al, up, l1, l2, rfl, rfl, hsf⟩⟩
 rintro _ _ ⟨w6, d8, r8, al8, up8, m1, m2, rfl, rfl, hs8⟩;clear hsf;refine C8 (fun e A => ∃ (w6 : Int) (aE : Option Addr) (cE : Nat) (rs2 : List (List Int)) (RU2 : List Ob), e = [(2, .pointer (some ⟨b2, 0, none⟩)), (3, .pointer (some ⟨b3, 0, none⟩)), (5, .pointer (some ⟨b4, 0, none⟩)), (6, .int .i64 w6)] /\ A = (.row b4 25 false ([.int .i64 g0, .int .i64 g1, .int .i64 g2]) :: (.row b3 37 false ([.int .i64 d8, .int .i64 r8, .slice (some ⟨bm1, 0, none⟩) m1.length OPEN, .slice (some ⟨bm2, 0, none⟩) m2.length OPEN, .int .i64 al8, .int .i64 up8, .slice aE rs2.length cE, .slice aD cs.length cD]) :: (RU2 ++ (CU ++ (.row bm2 3 true (ints m2) :: (.row bm1 3 true (ints m1) :: (.row b2 37 false ([.int .i64 0, .int .i64 0, .slice none 0 0, .slice none 0 0, .int .i64 0, .int .i64 0, .slice none 0 0, .slice none 0 0]) :: []))))))) /\ rH 89 7 aE rs2.length cE rs2 RU2 /\ Wd 7 rs2 /\ rs2.length <= 15) ?_ ?_
 ·refine rS (kO J (Q2 J (kO J (Y1 J .h1 J (kO J (aJ J (by first | exact hspR | exact hspC | exact hspm1 | exact hspm2) (kO J (fP J J (fun h11 => ?_) (fun h11 => ?_)))))))))
  ·refine Q0 (Y0 J (rS (kO J (bQ (j := 1) J J dE dE ?_))))
   obtain ⟨bR, zR, haR, hlnR, hcR, hzR, rfl⟩ := hU.resolve_left (fun q => by have := q.2.1; omega);rw [List.singleton_append]
   ·refine kO J (Y1 J .here rfl (kO J (Q2 J (kO J (Y1 J .h1 J (kO J (aJ J (by first | exact hspR | exact hspC | exact hspm1 | exact hspm2) (kO J (aH J J (fun s1 h1 => eI _ _ _ s1 h1.wf oM) ?_)))))))))
    obtain ⟨iN, hiN, hiL⟩ := wA (x := g1) (m := rs.length) oM;rw [hiN];refine kM J J (Q0 (rS (kM J J (Q0 (W1 (rQ (rS (kO J (bS J J (fun h12 => ?_) (fun h12 => ?_))))))))))
    ·refine kM J J (Q0 (Y0 J (Q1 (W0 (Y0 J (rI (kO J (Q2 J (kO J (Y1 J .h1 J (kM J J (kO J (bQ (j := 2) J J dE dE (kO J (Y1 J .here rfl (kO J (bK (j := iN) haR rfl rfl (by first | rfl | omega) (by first | decide | omega) (kO J (Q2 J (kZ J (cX J J .h2 (by rw [Nat.blt_eq, List.length_append, aA hWv.len]; omega) J (Q0 (Z1 (W0 ?_))))))))))))))))))))))))
     exact ⟨rfl, _, _, lL, (.q (.q (.q (.r (.q (.q (.q .slnil))))))), ⟨_, _, _, fM rs iN 3 g2, [.row bR 89 true (aL (fM rs iN 3 g2) ++ zR)], rfl, (by rw [dM hWv.len hiL dE, aY]; rfl), (.inr ⟨bR, zR, haR, rfl, hcR, (by rw [aY]; exact hzR), rfl⟩), (fL hWv hiL hg2), (by rw [aY]; omega)⟩⟩
    ·refine kM J J (Q0 (U0 J (rS (kO J (bS J J (fun h13 => ?_) (fun h13 => ?_))))))
     ·refine kM J J (Q0 (Y0 J (Q1 (W0 (Y0 J (rI (kO J (Q2 J (kO J (Y1 J .h1 J (kM J J (kO J (bQ (j := 2) J J dE dE (kO J (Y1 J .here rfl (kO J (bK (j := iN) haR rfl rfl (by first | rfl | omega) (by first | decide | omega) (kO J (Q2 J (kZ J (cX J J .h2 (by rw [Nat.blt_eq, List.length_append, aA hWv.len]; omega) J (Q0 (Z1 (W0 ?_))))))))))))))))))))))))
      exact ⟨rfl, _, _, lL, (.q (.q (.q (.r (.q (.q (.q .slnil))))))), ⟨_, _, _, fM rs iN 3 g2, [.row bR 89 true (aL (fM rs iN 3 g2) ++ zR)], rfl, (by rw [dM hWv.len hiL dE, aY]; rfl), (.inr ⟨bR, zR, haR, rfl, hcR, (by rw [aY]; exact hzR), rfl⟩), (fL hWv hiL hg2), (by rw [aY]; omega)⟩⟩
     ·refine kM J J (Q0 (U0 J (rI (kO J (bS J J (fun h14 => ?_) (fun h14 => ?_))))))
      ·refine kM J J (Q0 (W0 (Y0 J (rI (kO J (Q2 J (kO J (Y1 J .h1 J (kM J J (kO J (bQ (j := 2) J J dE dE (kO J (Y1 J .here rfl (kO J (bK (j := iN) haR rfl rfl (by first | rfl | omega) (by first | decide | omega) (kO J (Q2 J (kZ J (cX J J .h2 (by rw [Nat.blt_eq, List.length_append, aA hWv.len]; omega) J (Q0 (Z1 (W0 ?_))))))))))))))))))))))
       exact ⟨rfl, _, _, lL, (.q (.q (.q (.r (.q (.q (.q .slnil))))))), ⟨_, _, _, fM rs iN 3 g2, [.row bR 89 true (aL (fM rs iN 3 g2) ++ zR)], rfl, (by rw [dM hWv.len hiL dE, aY]; rfl), (.inr ⟨bR, zR, haR, rfl, hcR, (by rw [aY]; exact hzR), rfl⟩), (fL hWv hiL hg2), (by rw [aY]; omega)⟩⟩
      ·refine kM J J (Q0 (W0 (U0 J (rS (kO J (bS J J (fun h15 => ?_) (fun h15 => ?_)))))))
       ·refine kM J J (Q0 (Y0 J (rI (kO J (Q2 J (kO J (Y1 J .h1 J (kM J J (kO J (bQ (j := 2) J J dE dE (kO J (Y1 J .here rfl (kO J (bK (j := iN) haR rfl rfl (by first | rfl | omega) (by first | decide | omega) (kO J (Q2 J (kZ J (cX J J .h2 (by rw [Nat.blt_eq, List.length_append, aA hWv.len]; omega) J (Q0 (Z1 (W0 ?_)))))))))))))))))))))
        exact ⟨rfl, _, _, lL, (.q (.q (.q (.r (.q (.q (.q .slnil))))))), ⟨_, _, _, fM rs iN 4 g2, [.row bR 89 true (aL (fM rs iN 4 g2) ++ zR)], rfl, (by rw [dM hWv.len hiL dE, aY]; rfl), (.inr ⟨bR, zR, haR, rfl, hcR, (by rw [aY]; exact hzR), rfl⟩), (fL hWv hiL hg2), (by rw [aY]; omega)⟩⟩
       ·refine kM J J (Q0 (U0 J (rS (kO J (bS J J (fun h16 => ?_) (fun h16 => ?_))))))
        ·refine kM J J (Q0 (Y0 J (rI (kO J (Q2 J (kO J (Y1 J .h1 J (kM J J (kO J (bQ (j := 2) J J dE dE (kO J (Y1 J .here rfl (kO J (bK (j := iN) haR rfl rfl (by first | rfl | omega) (by first | decide | omega) (kO J (Q2 J (kZ J (cX J J .h2 (by rw [Nat.blt_eq, List.length_append, aA hWv.len]; omega) J (Q0 (Z1 (W0 ?_)))))))))))))))))))))
         exact ⟨rfl, _, _, lL, (.q (.q (.q (.r (.q (.q (.q .slnil))))))), ⟨_, _, _, fM rs iN 5 g2, [.row bR 89 true (aL (fM rs iN 5 g2) ++ zR)], rfl, (by rw [dM hWv.len hiL dE, aY]; rfl), (.inr ⟨bR, zR, haR, rfl, hcR, (by rw [aY]; exact hzR), rfl⟩), (fL hWv hiL hg2), (by rw [aY]; omega)⟩⟩
        ·refine kM J J (Q0 (U0 J (rS (kO J (bS J J (fun h17 => ?_) (fun h17 => ?_))))))
         ·refine kM J J (Q0 (Y0 J (rI (kO J (Q2 J (kO J (Y1 J .h1 J (kM J J (kO J (bQ (j := 2) J J dE dE (kO J (Y1 J .here rfl (kO J (bK (j := iN) haR rfl rfl (by first | rfl | omega) (by first | decide | omega) (kO J (Q2 J (kZ J (cX J J .h2 (by rw [Nat.blt_eq, List.length_append, aA hWv.len]; omega) J (Q0 (Z1 (W0 ?_)))))))))))))))))))))
          exact ⟨rfl, _, _, lL, (.q (.q (.q (.r (.q (.q (.q .slnil))))))), ⟨_, _, _, fM rs iN 6 g2, [.row bR 89 true (aL (fM rs iN 6 g2) ++ zR)], rfl, (by rw [dM hWv.len hiL dE, aY]; rfl), (.inr ⟨bR, zR, haR, rfl, hcR, (by rw [aY]; exact hzR), rfl⟩), (fL hWv hiL hg2), (by rw [aY]; omega)⟩⟩
         ·refine kM J J (Q0 (U0 J (rS (kO J (bS J J (fun h18 => ?_) (fun h18 => ?_))))))
          ·refine kM J J (Q0 (Y0 J (rI (kO J (Q2 J (kO J (Y1 J .h1 J (kM J J (kO J (bQ (j := 2) J J dE dE (kO J (Y1 J .here rfl (kO J (bK (j := iN) haR rfl rfl (by first | rfl | omega) (by first | decide | omega) (kO J (Q2 J (kZ J (cX J J .h2 (by rw [Nat.blt_eq, List.length_append, aA hWv.len]; omega) J (Q0 (Z1 (W0 ?_)))))))))))))))))))))
           exact ⟨rfl, _, _, lL, (.q (.q (.q (.r (.q (.q (.q .slnil))))))), ⟨_, _, _, fM rs iN 1 g2, [.row bR 89 true (aL (fM rs iN 1 g2) ++ zR)], rfl, (by rw [dM hWv.len hiL dE, aY]; rfl), (.inr ⟨bR, zR, haR, rfl, hcR, (by rw [aY]; exact hzR), rfl⟩), (fL hWv hiL hg2), (by rw [aY]; omega)⟩⟩
          ·refine kM J J (Q0 (U0 J (rS (kO J (bS J J (fun h19 => ?_) (fun h19 => ?_))))))
           ·refine kM J J (Q0 (Y0 J (rI (kO J (Q2 J (kO J (Y1 J .h1 J (kM J J (kO J (bQ (j := 2) J J dE dE (kO J (Y1 J .here rfl (kO J (bK (j := iN) haR rfl rfl (by first | rfl | omega) (by first | decide | omega) (kO J (Q2 J (kZ J (cX J J .h2 (by rw [Nat.blt_eq, List.length_append, aA hWv.len]; omega) J (Q0 (Z1 (W0 ?_)))))))))))))))))))))
            exact ⟨rfl, _, _, lL, (.q (.q (.q (.r (.q (.q (.q .slnil))))))), ⟨_, _, _, fM rs iN 2 g2, [.row bR 89 true (aL (fM rs iN 2 g2) ++ zR)], rfl, (by rw [dM hWv.len hiL dE, aY]; rfl), (.inr ⟨bR, zR, haR, rfl, hcR, (by rw [aY]; exact hzR), rfl⟩), (fL hWv hiL hg2), (by rw [aY]; omega)⟩⟩
           ·refine kM J J (Q0 (U0 J (rS (kO J (bS J J (fun h20 => ?_) (fun h20 => ?_))))))
            ·refine kM J J (Q0 (Y0 J (rI (kO J (Q2 J (kO J (Y1 J .h1 J (kM J J (kO J (bQ (j := 2) J J dE dE (kO J (Y1 J .here rfl (kO J (bK (j := iN) haR rfl rfl (by first | rfl | omega) (by first | decide | omega) (kO J (Q2 J (kZ J (cX J J .h2 (by rw [Nat.blt_eq, List.length_append, aA hWv.len]; omega) J (Q0 (Z1 (W0 ?_)))))))))))))))))))))
             exact ⟨rfl, _, _, lL, (.q (.q (.q (.r (.q (.q (.q .slnil))))))), ⟨_, _, _, fM rs iN 0 g2, [.row bR 89 true (aL (fM rs iN 0 g2) ++ zR)], rfl, (by rw [dM hWv.len hiL dE, aY]; rfl), (.inr ⟨bR, zR, haR, rfl, hcR, (by rw [aY]; exact hzR), rfl⟩), (fL hWv hiL hg2), (by rw [aY]; omega)⟩⟩
            ·refine kM J J (Q0 (U0 J (rQ (rS (kO J (bS J J (fun h21 => ?_) (fun h21 => ?_)))))))
             ·refine kM J J (Q0 (Y0 J (Q1 (W0 (Y0 J (rS ?_))))))
              obtain ⟨x0, x1, x2, x3, x4, x5, x6, hx⟩ := pZ (k := iN) hWv hiL;have hrd9 := lZ hrd hx;obtain ⟨i0, i1, i2, i3, i4, i5, i6⟩ := IC hWv hx;refine kO J (Q2 J (kO J (Y1 J .h1 J (kM J J (kO J (bK (j := iN) haR rfl rfl (by first | rfl | omega) (by first | decide | omega) (kO J (V4 J dE .h2 (lA hWv.len hx) (kO J (bG J J (fun b22 => (kZ J (Q6 J J .here rfl rfl rfl rfl (Q0 (rS (kO J (Q2 J (kZ J (cX J J .here rfl rfl (Q0 (rS (kO J (bQ (j := 2) J J dE dE (kO J (Y1 J .h1 J (kO J (Q2 J (kO J (Y1 J .here rfl (kO J (bX J J oM (kO J (Y3 J J oM ?_)))))))))))))))))))))))))))))))));have hm9 := cU (x := g2) (m := 20000 - x4 + 1) oM;refine kO J (aH J J (fun s1 h1 => eI _ _ _ s1 h1.wf oM) (kO J (Q2 J (kZ J (cX J J .here rfl rfl (Q0 (rI (kO J (Q2 J (kO J (Y1 J .h2 J (kO J (V4 J dE .here rfl (kO J (bO J J J (fun b23 => (kO J (uB (more := [.int .i64 (50), .int .i64 (x1), .int .i64 (x2), .int .i64 (aN g2 (20000 - x4 + 1)), .int .i64 (x4), .int .i64 (x5), .int .i64 (x6)]) (show rH 89 7 aF rs.length cF rs [.row bR 89 true (aL rs ++ zR)] from .inr ⟨bR, zR, haR, hlnR, hcR, hzR, rfl⟩) .h4 J J .here hWv.len rfl dE oM oM (fun b99 => (kO J (Q2 J (sT .h4 (sT .h4 ?_)))))))))))))))))))))))
              ·refine kZ J (cX J J .h1 J J (Q0 (Z1 (W0 ?_))))
               exact ⟨rfl, _, _, lL, (.q (.q (.q (.cons _ (.cons _ (.r (.q (.q (.q .slnil))))))))), ⟨_, _, _, (rs ++ [[50, x1, x2, aN g2 (20000 - x4 + 1), x4, x5, x6]]), [.row b99 89 true (aL (rs ++ [[50, x1, x2, aN g2 (20000 - x4 + 1), x4, x5, x6]]))], rfl, (by rw [dA, List.length_append]; rfl), (.inr ⟨b99, [], rfl, rfl, rfl, .inl ⟨rfl, by rw [List.length_append]; exact Nat.succ_pos _⟩, by rw [List.append_nil]⟩), (hWv.app (Qd ⟨oM, oM⟩ i1 i2 ⟨oM, oM⟩ i4 i5 i6)), (by rw [List.length_append]; show rs.length + 1 <= 15; omega)⟩⟩
             ·refine kM J J (Q0 (U0 J (rI (kO J (bS J J (fun h24 => ?_) (fun h24 => ?_))))))
              ·refine kM J J (Q0 (W0 (Y0 J (rS ?_))))
               obtain ⟨x0, x1, x2, x3, x4, x5, x6, hx⟩ := pZ (k := iN) hWv hiL;have hrd9 := lZ hrd hx;obtain ⟨i0, i1, i2, i3, i4, i5, i6⟩ := IC hWv hx;refine kO J (Q2 J (kO J (Y1 J .h1 J (kM J J (kO J (bK (j := iN) haR rfl rfl (by first | rfl | omega) (by first | decide | omega) (kO J (V4 J dE .h2 (lA hWv.len hx) (kO J (bG J J (fun b25 => (kZ J (Q6 J J .here rfl rfl rfl rfl (Q0 (rS (kO J (Q2 J (kZ J (cX J J .here rfl rfl (Q0 (rS (kO J (bQ (j := 2) J J dE dE (kO J (Y1 J .h1 J (kO J (Q2 J (kO J (Y1 J .here rfl (kO J (bX J J oM (kO J (Y3 J J oM ?_)))))))))))))))))))))))))))))))));have hm9 := cU (x := g2) (m := 20000 - x4 + 1) oM;refine kO J (aH J J (fun s1 h1 => eI _ _ _ s1 h1.wf oM) (kO J (Q2 J (kZ J (cX J J .here rfl rfl (Q0 (rI (kO J (Q2 J (kO J (Y1 J .h2 J (kO J (V4 J dE .here rfl (kO J (bO J J J (fun b26 => (kO J (uB (more := [.int .i64 (50), .int .i64 (x1), .int .i64 (x2), .int .i64 (aN g2 (20000 - x4 + 1)), .int .i64 (x4), .int .i64 (x5), .int .i64 (x6)]) (show rH 89 7 aF rs.length cF rs [.row bR 89 true (aL rs ++ zR)] from .inr ⟨bR, zR, haR, hlnR, hcR, hzR, rfl⟩) .h4 J J .here hWv.len rfl dE oM oM (fun b99 => (kO J (Q2 J (sT .h4 (sT .h4 ?_)))))))))))))))))))))))
               ·refine kZ J (cX J J .h1 J J (Q0 (Z1 (W0 ?_))))
                exact ⟨rfl, _, _, lL, (.q (.q (.q (.cons _ (.cons _ (.r (.q (.q (.q .slnil))))))))), ⟨_, _, _, (rs ++ [[50, x1, x2, aN g2 (20000 - x4 + 1), x4, x5, x6]]), [.row b99 89 true (aL (rs ++ [[50, x1, x2, aN g2 (20000 - x4 + 1), x4, x5, x6]]))], rfl, (by rw [dA, List.length_append]; rfl), (.inr ⟨b99, [], rfl, rfl, rfl, .inl ⟨rfl, by rw [List.length_append]; exact Nat.succ_pos _⟩, by rw [List.append_nil]⟩), (hWv.app (Qd ⟨oM, oM⟩ i1 i2 ⟨oM, oM⟩ i4 i5 i6)), (by rw [List.length_append]; show rs.length + 1 <= 15; omega)⟩⟩
              ·refine kM J J (Q0 (W0 (U0 J (Q1 (Z1 (W0 ?_))))))
               exact ⟨rfl, _, _, lL, (.q (.q (.q (.r (.q (.q (.q .slnil))))))), ⟨_, _, _, _, _, rfl, rfl, (.inr ⟨bR, zR, haR, hlnR, hcR, hzR, rfl⟩), hWv, oM⟩⟩
  ·refine Q0 (U0 J (Q1 (W0 ?_)))
   exact ⟨rfl, _, _, lL, (.q (.q (.r (.r (.q (.q (.q .slnil))))))), ⟨_, _, _, _, _, rfl, rfl, hU, hWv, oM⟩⟩
 rintro _ _ ⟨w6, aE, cE, rs2, RU2, rfl, rfl, hU2, hW2, hr2⟩;refine C8 (fun e A => ∃ (w6 : Int) (aG : Option Addr) (cG : Nat) (cs2 : List (List Int)) (CU2 : List Ob), e = [(2, .pointer (some ⟨b2, 0, none⟩)), (3, .pointer (some ⟨b3, 0, none⟩)), (5, .pointer (some ⟨b4, 0, none⟩)), (6, .int .i64 w6)] /\ A = (.row b4 25 false ([.int .i64 g0, .int .i64 g1, .int .i64 g2]) :: (.row b3 37 false ([.int .i64 d8, .int .i64 r8, .slice (some ⟨bm1, 0, none⟩) m1.length OPEN, .slice (some ⟨bm2, 0, none⟩) m2.length OPEN, .int .i64 al8, .int .i64 up8, .slice aE rs2.length cE, .slice aG cs2.length cG]) :: (RU2 ++ (CU2 ++ (.row bm2 3 true (ints m2) :: (.row bm1 3 true (ints m1) :: (.row b2 37 false ([.int .i64 0, .int .i64 0, .slice none 0 0, .slice none 0 0, .int .i64 0, .int .i64 0, .slice none 0 0, .slice none 0 0]) :: []))))))) /\ rH 91 6 aG cs2.length cG cs2 CU2 /\ Wd 6 cs2 /\ cs2.length <= 5) ?_ ?_
 ·refine rS (kO J (Q2 J (kO J (Y1 J .h1 J (kO J (aJ J (by first | exact hspR | exact hspC | exact hspm1 | exact hspm2) (kO J (fP J J (fun h27 => ?_) (fun h27 => ?_)))))))))
  ·refine Q0 (Y0 J (rS (kO J (bQ (j := 1) J J dE dE ?_))))
   obtain ⟨bC, zC, haC, hlnC, hcC, hzC, rfl⟩ := hV.resolve_left (fun q => by have := q.2.1; omega);rw [List.singleton_append]
   ·refine kO J (Y1 J .here rfl (kO J (Q2 J (kO J (Y1 J .h1 J (kO J (aJ J (by first | exact hspR | exact hspC | exact hspm1 | exact hspm2) (kO J (aH J J (fun s1 h1 => eI _ _ _ s1 h1.wf oM) ?_)))))))))
    obtain ⟨jN, hjN, hjL⟩ := wA (x := g1) (m := cs.length) oM;rw [hjN];refine kM J J (Q0 (rS (kM J J (Q0 (W1 (rQ (rS (kO J (bS J J (fun h28 => ?_) (fun h28 => ?_))))))))))
    ·refine kM J J (Q0 (Y0 J (Q1 (W0 (Y0 J (rI (kO J (Q2 J (kO J (Y1 J .h1 J (kM J J (kO J (bQ (j := 2) J J dE dE (kO J (Y1 J .here rfl (kO J (bK (j := jN) haC rfl rfl (by first | rfl | omega) (by first | decide | omega) (kO J (Q2 J (kZ J (cX J J (.next (.next (.app .here))) (by rw [Nat.blt_eq, List.length_append, aA hWc.len]; omega) J (Q0 (Z1 (W0 ?_))))))))))))))))))))))))
     exact ⟨rfl, _, _, lL, (.q (.q (.r (.q (.q (.q (.q .slnil))))))), ⟨_, _, _, fM cs jN 4 g2, [.row bC 91 true (aL (fM cs jN 4 g2) ++ zC)], rfl, (by rw [dM hWc.len hjL dE, aY]; rfl), (.inr ⟨bC, zC, haC, rfl, hcC, (by rw [aY]; exact hzC), rfl⟩), (fL hWc hjL hg2), (by rw [aY]; omega)⟩⟩
    ·refine kM J J (Q0 (U0 J (rI (kO J (bS J J (fun h29 => ?_) (fun h29 => ?_))))))
     ·refine kM J J (Q0 (W0 (Y0 J (rI (kO J (Q2 J (kO J (Y1 J .h1 J (kM J J (kO J (bQ (j := 2) J J dE dE (kO J (Y1 J .here rfl (kO J (bK (j := jN) haC rfl rfl (by first | rfl | omega) (by first | decide | omega) (kO J (Q2 J (kZ J (cX J J (.next (.next (.app .here))) (by rw [Nat.blt_eq, List.length_append, aA hWc.len]; omega) J (Q0 (Z1 (W0 ?_))))))))))))))))))))))
      exact ⟨rfl, _, _, lL, (.q (.q (.r (.q (.q (.q (.q .slnil))))))), ⟨_, _, _, fM cs jN 4 g2, [.row bC 91 true (aL (fM cs jN 4 g2) ++ zC)], rfl, (by rw [dM hWc.len hjL dE, aY]; rfl), (.inr ⟨bC, zC, haC, rfl, hcC, (by rw [aY]; exact hzC), rfl⟩), (fL hWc hjL hg2), (by rw [aY]; omega)⟩⟩
     ·refine kM J J (Q0 (W0 (U0 J (rS (kO J (bS J J (fun h30 => ?_) (fun h30 => ?_)))))))
      ·refine kM J J (Q0 (Y0 J (rI (kO J (Q2 J (kO J (Y1 J .h1 J (kM J J (kO J (bQ (j := 2) J J dE dE (kO J (Y1 J .here rfl (kO J (bK (j := jN) haC rfl rfl (by first | rfl | omega) (by first | decide | omega) (kO J (Q2 J (kZ J (cX J J (.next (.next (.app .here))) (by rw [Nat.blt_eq, List.length_append, aA hWc.len]; omega) J (Q0 (Z1 (W0 ?_)))))))))))))))))))))
       exact ⟨rfl, _, _, lL, (.q (.q (.r (.q (.q (.q (.q .slnil))))))), ⟨_, _, _, fM cs jN 5 g2, [.row bC 91 true (aL (fM cs jN 5 g2) ++ zC)], rfl, (by rw [dM hWc.len hjL dE, aY]; rfl), (.inr ⟨bC, zC, haC, rfl, hcC, (by rw [aY]; exact hzC), rfl⟩), (fL hWc hjL hg2), (by rw [aY]; omega)⟩⟩
      ·refine kM J J (Q0 (U0 J (rS (kO J (bS J J (fun h31 => ?_) (fun h31 => ?_))))))
       ·refine kM J J (Q0 (Y0 J (rI (kO J (Q2 J (kO J (Y1 J .h1 J (kM J J (kO J (bQ (j := 2) J J dE dE (kO J (Y1 J .here rfl (kO J (bK (j := jN) haC rfl rfl (by first | rfl | omega) (by first | decide | omega) (kO J (Q2 J (kZ J (cX J J (.next (.next (.app .here))) (by rw [Nat.blt_eq, List.length_append, aA hWc.len]; omega) J (Q0 (Z1 (W0 ?_)))))))))))))))))))))
        exact ⟨rfl, _, _, lL, (.q (.q (.r (.q (.q (.q (.q .slnil))))))), ⟨_, _, _, fM cs jN 2 g2, [.row bC 91 true (aL (fM cs jN 2 g2) ++ zC)], rfl, (by rw [dM hWc.len hjL dE, aY]; rfl), (.inr ⟨bC, zC, haC, rfl, hcC, (by rw [aY]; exact hzC), rfl⟩), (fL hWc hjL hg2), (by rw [aY]; omega)⟩⟩
       ·refine kM J J (Q0 (U0 J (rS (kO J (bS J J (fun h32 => ?_) (fun h32 => ?_))))))
        ·refine kM J J (Q0 (Y0 J (rI (kO J (Q2 J (kO J (Y1 J .h1 J (kM J J (kO J (bQ (j := 2) J J dE dE (kO J (Y1 J .here rfl (kO J (bK (j := jN) haC rfl rfl (by first | rfl | omega) (by first | decide | omega) (kO J (Q2 J (kZ J (cX J J (.next (.next (.app .here))) (by rw [Nat.blt_eq, List.length_append, aA hWc.len]; omega) J (Q0 (Z1 (W0 ?_)))))))))))))))))))))
         exact ⟨rfl, _, _, lL, (.q (.q (.r (.q (.q (.q (.q .slnil))))))), ⟨_, _, _, fM cs jN 3 g2, [.row bC 91 true (aL (fM cs jN 3 g2) ++ zC)], rfl, (by rw [dM hWc.len hjL dE, aY]; rfl), (.inr ⟨bC, zC, haC, rfl, hcC, (by rw [aY]; exact hzC), rfl⟩), (fL hWc hjL hg2), (by rw [aY]; omega)⟩⟩
        ·refine kM J J (Q0 (U0 J (Q1 (Z1 (W0 ?_)))))
         exact ⟨rfl, _, _, lL, (.q (.q (.r (.q (.q (.q (.q .slnil))))))), ⟨_, _, _, _, _, rfl, rfl, (.inr ⟨bC, zC, haC, hlnC, hcC, hzC, rfl⟩), hWc, oM⟩⟩
  ·refine Q0 (U0 J (Q1 (W0 ?_)))
   exact ⟨rfl, _, _, lL, (.q (.q (.r (.r (.q (.q (.q .slnil))))))), ⟨_, _, _, _, _, rfl, rfl, hV, hWc, oM⟩⟩
 rintro _ _ ⟨w6, aG, cG, cs2, CU2, rfl, rfl, hV2, hX2, hc2⟩;refine rS (kO J (V4 J dE .h1 J (kZ J (Q6 J J (.next (.next (.app (.app .h2)))) J J J J (Q0 (V2 (⟨rfl, [_], _, ⟨_, _, _, [], rfl, rfl, dE, ⟨_, _, _, (.next (.next (.app (.app .h2)))), rfl⟩, rfl⟩, (.cons _ (.cons _ (.r (.r (.q (.q (.cons _ .slnil))))))), bm1, bm2, d8, r8, al8, up8, m1, m2, aE, cE, RU2, rs2, aG, cG, CU2, cs2, rfl, rfl, hs8, hU2, hV2, hW2, hX2, hr2, hc2⟩)))))))
end
end Ev
end Go.Proofs.YtjkdkpckjgaplaaGreat
namespace Go.Proofs.YtjkdkpckjgaplaaGreat
open Go Go.RowKit Go.Lib
theorem IE (zs : List Int) (h : zs.Pairwise (· <= ·)) (i j : Nat) (hij : i <= j) (hj : j < zs.length) : zs.toArray[i]! <= zs.toArray[j]! := by
 rw [getElem!_pos zs.toArray i (by simp; omega), getElem!_pos zs.toArray j (by simpa using hj)];simp only [List.getElem_toArray];rcases Nat.lt_or_ge i j with h1 | h1
 ·exact (List.pairwise_iff_getElem.1 h) i j oM hj h1
 ·have : i = j := oM
  subst this;exact Int.le_refl _
theorem Mw (zs : List Int) (h : zs.Pairwise (· <= ·)) : (compact zs).Pairwise (· < ·) := by
 unfold compact compactUpTo;rw [List.pairwise_map];rw [List.pairwise_filter];have hr : (List.range zs.length).Pairwise (fun i j => i < j /\ j < zs.length) := by
  rw [List.pairwise_iff_getElem];intro i j hi hj hij;simp only [List.getElem_range];simp only [List.length_range] at hj;exact ⟨hij, hj⟩
 refine hr.imp ?_;intro i j ⟨hij, hj⟩ _ hk;simp only [keeps, decide_eq_true_eq] at hk;have hne : zs.toArray[j]! ≠ zs.toArray[j - 1]! := by
  rcases hk with hk | hk
  ·omega
  ·exact hk
 have h1 := IE zs h i (j - 1) oM oM;have h2 := IE zs h (j - 1) j oM hj;omega
theorem Mx (zs : List Int) (z : Int) : z ∈ compact zs ↔ z ∈ zs := by
 constructor
 ·intro h
  simp only [compact, compactUpTo, List.mem_map, List.mem_filter, List.mem_range] at h;obtain ⟨k, ⟨hk, _⟩, rfl⟩ := h;rw [getElem!_pos zs.toArray k (by simpa using hk)];simp
 ·intro h
  obtain ⟨k, hk, rfl⟩ := List.getElem_of_mem h;clear h;have e : ∀ k (hk : k < zs.length), zs.toArray[k]! = zs[k] := fun k hk => by
   rw [getElem!_pos zs.toArray k (by simpa using hk)]; simp
  have : ∀ k (hk : k < zs.length), zs[k] ∈ compact zs := by
   intro k
   induction k with
   | zero =>
    intro hk;simp only [compact, compactUpTo, List.mem_map, List.mem_filter, List.mem_range];exact ⟨0, ⟨hk, by simp [keeps]⟩, e 0 hk⟩
   | succ k ih =>
    intro hk;by_cases hq : zs.toArray[k + 1]! = zs.toArray[k]!
    ·have := ih oM
     rw [e _ hk, e k oM] at hq;rw [hq]; exact this
    ·simp only [compact, compactUpTo, List.mem_map, List.mem_filter, List.mem_range]
     exact ⟨k + 1, ⟨hk, by simp only [keeps, decide_eq_true_eq]; right; simpa using hq⟩, e _ hk⟩
  exact this k hk
theorem E2 : ∀ (xs ys : List Int), xs.Pairwise (· < ·) -> ys.Pairwise (· < ·) -> (∀ z, z ∈ xs ↔ z ∈ ys) -> xs = ys
 | [], ys, _, _, h => by
  cases ys with
  | nil => rfl
  | cons y t => exact absurd ((h y).2 sM) sM
 | x :: s, [], _, _, h => absurd ((h x).1 sM) sM
 | x :: s, y :: t, hx, hy, h => by
  obtain ⟨hx1, hx2⟩ := List.pairwise_cons.1 hx;obtain ⟨hy1, hy2⟩ := List.pairwise_cons.1 hy;have e : x = y := by
   rcases List.mem_cons.1 ((h x).1 sM) with e | e
   ·exact e
   ·rcases List.mem_cons.1 ((h y).2 sM) with e' | e'
    ·exact e'.symm
    ·have := hx1 y e'; have := hy1 x e; omega
  subst e
  congr 1
  refine E2 s t hx2 hy2 fun z => ?_
  constructor
  ·intro hz
   rcases List.mem_cons.1 ((h z).1 (by simp [hz])) with e | e
   ·have := hx1 z hz; omega
   ·exact e
  ·intro hz
   rcases List.mem_cons.1 ((h z).2 (by simp [hz])) with e | e
   ·have := hy1 z hz; omega
   ·exact e
def C9 (zs : List Int) : List Int := compact (zs.mergeSort fun x y => decide (x <= y))
theorem My (zs : List Int) : (zs.mergeSort fun x y => decide (x <= y)).Pairwise (· <= ·) := by
 have := List.pairwise_mergeSort (le := fun (x y : Int) => decide (x <= y)) (fun a b c => by simp; omega) (fun a b => by simp; omega) zs;simpa using this
theorem Mz (zs : List Int) : (C9 zs).Pairwise (· < ·) := Mw _ (My zs)
theorem E3 (zs : List Int) (z : Int) : z ∈ C9 zs ↔ z ∈ zs := by
 rw [C9, Mx]; exact List.mem_mergeSort
end Go.Proofs.YtjkdkpckjgaplaaGreat
namespace Go.Proofs.YtjkdkpckjgaplaaGreat
open Go Go.RowKit Go.Lib Go.Sort Go.Proofs
theorem AY (zs : List Int) : (compact zs).length <= zs.length := by
 unfold compact compactUpTo;rw [List.length_map];exact Nat.le_trans (List.length_filter_le _ _) sM
def IF : Prop := ∀ (blk off cap : Nat) (zs : List Int) (w : World), Holds (Value.int .i64) w blk off zs.toArray -> blk < w.heap.size -> zs.length < 4611686018427387904 ->
 Calls Tryz.prog 42 #[.slice (some ⟨blk, off, none⟩) zs.length cap] w fun e w' => e = .returned (.tuple #[]) /\ ∃ n os, w' = grow (putRow (Value.int .i64) (Sort.ahead w n) blk off (zs.mergeSort fun x y => decide (x <= y)).toArray) os
def IG : Prop := ∀ (p : Option Addr) (cap : Nat) (w : World), Calls Tryz.prog 42 #[.slice p 0 cap] w fun e w' => e = .returned (.tuple #[]) /\ w' = w
def M1 : Prop := ∀ (blk off cap : Nat) (zs : List Int) (w : World), Holds (Value.int .i64) w blk off zs.toArray -> zs.length <= 9223372036854775807 -> zs.length <= cap ->
 Calls Tryz.prog 43 #[.slice (some ⟨blk, off, none⟩) zs.length cap] w fun e w' => e = .returned (.slice (some ⟨blk, off, none⟩) (compact zs).length cap) /\ ∃ q, w' = putRow (Value.int .i64) (Sort.ahead w q) blk off (compact zs ++ List.replicate (zs.length - (compact zs).length) 0).toArray
def M2 : Prop := ∀ (a : Option Addr) (cap : Nat) (w : World), Calls Tryz.prog 43 #[.slice a 0 cap] w fun e w' => e = .returned (.slice a 0 cap) /\ w' = w
theorem On (zs : List Int) : (C9 zs).length <= zs.length := by
 have := AY (zs.mergeSort fun x y => decide (x <= y))
 rwa [List.length_mergeSort] at this
theorem PT (cur : Array Value) (ts : List Int) (j : Nat) (h : ts.length <= cur.size) : (putCells (Value.int .i64) 0 ts.toArray cur)[j]? = if j < ts.length then (ts.map (Value.int .i64))[j]? else cur[j]? := by
 unfold putCells;rw [Array.getElem?_mapIdx];by_cases q : j < ts.length
 ·rw [if_pos q, Array.getElem?_eq_getElem oM, Option.map_some, if_pos ⟨Nat.zero_le _, by simpa using q⟩, List.getElem?_map, List.getElem?_eq_getElem q]
  simp [getElem!_pos, q]
 ·rw [if_neg q]
  by_cases p : j < cur.size
  ·rw [Array.getElem?_eq_getElem p, Option.map_some, if_neg (fun k => q (by have := k.2; simp at this; exact this))]
  ·rw [Array.getElem?_eq_none oM]; rfl
theorem IH {w : World} {g n : Nat} {cur : Array Value} {e : TypeId} {fr : Nat × Nat} (d : Array Int) (hb : w.heap[g]? = some (.cells cur e fr)) : (putRow (Value.int .i64) (Sort.ahead w n) g 0 d).heap[g]? = some (.cells (putCells (Value.int .i64) 0 d cur) e fr) := by
 simp [putRow, mapBlock, Sort.ahead, Array.getElem?_modify, hb, onCells]
theorem FN {w w1 : World} {g n : Nat} (d : Array Int) (h : w.grownBy w1 (some g)) : w.grownBy (putRow (Value.int .i64) (Sort.ahead w1 n) g 0 d) (some g) := by
 obtain ⟨h1, h2, h3, h4, h5⟩ := h;refine ⟨h1, h2, h3, by simpa [putRow, mapBlock, Sort.ahead] using h4, fun k hk hne => ?_⟩;rw [<- h5 k hk hne];have : g ≠ k := fun e => hne (by rw [e])
 simp [putRow, mapBlock, Sort.ahead, Array.getElem?_modify, this]
end Go.Proofs.YtjkdkpckjgaplaaGreat
namespace Go.Proofs.YtjkdkpckjgaplaaGreat.Ev
open Go Go.RowKit
noncomputable section
theorem cN.rowW {P : Program} {K : Kp} {B : Nat} {m : Mp} {s : St} {w w' : World} (E : cN P K B m s w) {b X y N e : Nat} {tr tr' : BT Value} {op : Bool} {h' : BT dK} {cur cur' : Array Value} (hm : m b = some (X, y)) (hg : s.h.get b = some (.cells N tr e op)) (hh : ∀ j, h'.get j = if j = b then some (.cells N tr' e op) else s.h.get j)
 (hw : w.heap[X]? = some (.cells cur e (0, 0))) (hw' : w'.heap[X]? = some (.cells cur' e (0, 0))) (hs : cur'.size = cur.size) (hgr : w.grownBy w' (some X)) (hc : ∀ j v, tr'.get j = some v -> (∃ v', cur'[j]? = some v' /\ VR m v v') /\ oneCell v = true /\ j < N) : cN P K B m ⟨h', s.n⟩ w' /\ Below B w w' := by
 have hX : B <= X := E.own hm hg (fun g q => by cases q);obtain ⟨h1, h2, h3, h4, h5⟩ := hgr;obtain ⟨ob, hob, hOR⟩ := E.obj b X y _ hm hg;rw [hw] at hob;cases hob;obtain ⟨cs, e1, hN, _, hop, _⟩ := hOR;cases e1;have hne : ∀ {i x z}, m i = some (x, z) -> i ≠ b -> x = X -> s.h.get i = some .dead := fun {i x z} hi hb hx => by
  subst hx;rcases E.inj i b x z y hi hm hb hX with q | q
  ·exact q
  ·rw [hg] at q; cases q
 refine ⟨⟨fun i x z hi => ⟨?_, Nat.lt_of_lt_of_le (E.low i x z hi).2 h4⟩, E.old, fun i x z o hi ho => ?_, fun i j x z z' hi hj hne2 hx => ?_, Nat.le_trans E.base h4, fun i o hi => ?_⟩, ⟨h1, h2, h3, h4, fun k hk => h5 k (Nat.lt_of_lt_of_le hk E.base) (fun q => by cases q; omega)⟩⟩
 ·rcases (E.low i x z hi).1 with q | ⟨g, q⟩
  ·exact .inl q
  ·refine .inr ⟨g, ?_⟩
   have : i ≠ b := fun e => by rw [e, hg] at q; cases q
   show h'.get i = _;rw [hh, if_neg this]; exact q
 ·have ho' : h'.get i = some o := ho
  rw [hh] at ho';by_cases q : i = b
  ·subst q
   rw [if_pos rfl] at ho';cases ho';rw [hm] at hi;cases hi;exact ⟨_, hw', cur', rfl, oM, fun j v hj => (hc j v hj).1, fun ht => by obtain ⟨x, z, k1, k2⟩ := hop ht; exact ⟨x, z, k1, by rw [hs]; exact k2⟩, fun j v hj => (hc j v hj).2⟩
  ·rw [if_neg q] at ho'
   by_cases p : x = X
   ·have := hne hi q p
    rw [ho'] at this;cases this;subst p;exact ⟨_, hw', trivial⟩
   ·obtain ⟨o', k1, k2⟩ := E.obj i x z o hi ho'
    exact ⟨o', (h5 x (E.low i x z hi).2 (fun q => by cases q; exact p rfl)).trans k1, k2⟩
 ·have dead : ∀ {i}, s.h.get i = some .dead -> h'.get i = some .dead := fun {i} q => by
   have : i ≠ b := fun e => by rw [e, hg] at q; cases q
   rw [hh, if_neg this]; exact q
  rcases E.inj i j x z z' hi hj hne2 hx with q | q
  ·exact .inl (dead q)
  ·exact .inr (dead q)
 ·obtain ⟨k1, k2, k3⟩ := E.kept i o hi
  have : i ≠ b := fun e => by rw [e, hm] at k1; cases k1
  exact ⟨k1, by show h'.get i = _; rw [hh, if_neg this]; exact k2, k3⟩
def II (X Y : FuncId -> List Value -> St -> (Value -> St -> Bool) -> Bool) : FuncId -> List Value -> St -> (Value -> St -> Bool) -> Bool := fun g vs s k => X g vs s k || Y g vs s k
theorem iR.or {P : Program} {X Y : FuncId -> List Value -> St -> (Value -> St -> Bool) -> Bool} (h : iR P X) (h2 : iR P Y) : iR P (II X Y) := by
 intro K B f vs s k hk m w us E hv;have hk' : (X f vs s k || Y f vs s k) = true := hk;rcases Bool.or_eq_true _ _ ▸ hk' with q | q
 ·exact h q E hv
 ·exact h2 q E hv
theorem IJ {m : Mp} {v : Value} {us : List Value} (h : LR m [v] us) : ∃ u, us = [u] /\ VR m v u := by
 simp only [LR] at h;obtain ⟨u, us', rfl, h1, h2⟩ := h;subst h2;exact ⟨u, rfl, h1⟩
section
variable {P : Program} {C : Nat -> (CF -> Bool) -> Bool} {X : FuncId -> List Value -> St -> (Value -> St -> Bool) -> Bool} {s0 : St} {n nt : Nat} {env : List (Nat × Value)} {A : List Ob} {R : Value -> List Ob -> Prop}
theorem IK {g : Nat} {vs : List Value} {s : St} {k : Value -> St -> Bool} (h : X g vs s k = true) : (cJ P C X n).call g vs s k = true := by
 cases n with
 | zero => exact h
 | succ n =>
  show (X g vs s k || _) = true;rw [h]; rfl
end
end
end Go.Proofs.YtjkdkpckjgaplaaGreat.Ev
namespace Go.Proofs.YtjkdkpckjgaplaaGreat.Ev
open Go Go.RowKit
open Go.Lib (compact)
noncomputable section
def Oo (V : Option (List Int -> Nat)) (b : Nat) (zs : List Int) (c : Nat) : Value := match V with
 | none => .tuple #[]
 | some m => .slice (some ⟨b, 0, none⟩) (m zs) c
def zX (V : Option (List Int -> Nat)) : Value := match V with
 | none => .tuple #[]
 | some _ => .slice none 0 0
theorem IL {m : Mp} {V : Option (List Int -> Nat)} : VR m (zX V) (zX V) := by
 cases V with
 | none => exact VR.flat _ rfl
 | some _ => exact VR.slice0
def PU (P : Program) (T : List Int -> List Int) (V : Option (List Int -> Nat)) (vs : List Value) (s : St) (k : Value -> St -> Bool) : Prop :=
 (vs = [.slice none 0 0] /\ k (zX V) s = true) ∨
 ∃ b c N tr e op, ∃ zs : List Int, vs = [.slice (some ⟨b, 0, none⟩) zs.length c] /\ s.h.get b = some (.cells N tr e op) /\ zs.length <= N /\ (∀ j, j < zs.length -> tr.get j = (ints zs)[j]?) /\ ((c = OPEN /\ op = true /\ P.cellsOf e = 1) ∨ (c < OPEN /\ zs.length <= c)) /\ zs.length * 8 <= 140737488355328 /\ dT tr 0 (ints (T zs)) (fun tr' => cK s b (.cells N tr' e op) (fun s' => k (Oo V b zs c) s')) = true
def uD (P : Program) (f : Nat) (T : List Int -> List Int) (V : Option (List Int -> Nat)) : FuncId -> List Value -> St -> (Value -> St -> Bool) -> Bool := fun g vs s k => @decide (g = f /\ PU P T V vs s k) (Classical.propDecidable _)
def QV (T : List Int -> List Int) (V : Option (List Int -> Nat)) (b cap : Nat) (zs : List Int) (cur : Array Value) (e : TypeId) (W : World) (x : Ending) (w' : World) : Prop := x = .returned (Oo V b zs cap) /\ W.grownBy w' (some b) /\ ∃ cur', w'.heap[b]? = some (.cells cur' e (0, 0)) /\ cur'.size = cur.size /\ ∀ j, cur'[j]? = if j < zs.length then ((T zs).map (Value.int .i64))[j]? else cur[j]?
def pN (P : Program) (f : Nat) (T : List Int -> List Int) (V : Option (List Int -> Nat)) : Prop := (∀ (b cap : Nat) (zs : List Int) (cur : Array Value) (e : TypeId) (W : World), W.heap[b]? = some (.cells cur e (0, 0)) -> cur.toList.take zs.length = zs.map (Value.int .i64) -> zs.length <= cur.size -> zs.length <= cap -> zs.length * 8 <= 140737488355328 -> Calls P f #[.slice (some ⟨b, 0, none⟩) zs.length cap] W (QV T V b cap zs cur e W)) /\ ∀ W, Calls P f #[.slice none 0 0] W fun x w' => x = .returned (zX V) /\ Below W.heap.size W w'
theorem IM {P : Program} {f : Nat} {cf : CF} {T : List Int -> List Int} {V : Option (List Int -> Nat)} (hT : ∀ zs, (T zs).length = zs.length) (hc : compF P f = some cf) (h : pN P f T V) : iR P (uD P f T V) := by
 intro K B g vs s k hk m w us E hv;unfold uD at hk;obtain ⟨rfl, hR⟩ := @of_decide_eq_true _ (Classical.propDecidable _) hk;obtain ⟨fn, cd, r, e1, e2, e3, e4, _⟩ := tJ hc;refine ⟨fun w => ?_, ?_⟩
 ·have h4' : ¬ fn.name = "runtime.NumGoroutine" := by simpa using e4
  simp [callFunc, e1, e2, h4']
 rcases hR with ⟨rfl, hk3⟩ | ⟨b, c, N, tr, e, op, zs, rfl, hg, hN, hz, hcap, hbig, hp⟩
 ·obtain ⟨u, rfl, hu⟩ := IJ hv
  have := hu.slice_none;subst this;refine CallsIn.mono ((callsIn_wide (n := 0)).2 (h.2 w)) (fun x w' he => ?_);obtain ⟨rfl, hb⟩ := he;exact ⟨zX V, s, m, hk3, Mp.le_refl m, E.below hb, hb.mono E.base, IL⟩
 ·obtain ⟨u, rfl, hu⟩ := IJ hv
  obtain ⟨tr', hp2, _, htr⟩ := gX hp;obtain ⟨h', hk6, _, hh⟩ := dD hp2;obtain ⟨X, y, cap, hm, rfl, hcp, hvr⟩ : ∃ X y cap, m b = some (X, y) /\ u = .slice (some ⟨X, 0, none⟩) zs.length cap /\ (c < OPEN -> cap = c) /\ (c = OPEN -> cap = y) := by
   rcases hu.slice_inv with ⟨q, x, y, h1, rfl⟩ | ⟨q1, q, x, y, h1, rfl⟩ | ⟨q, _⟩
   ·exact ⟨x, y, c, h1, rfl, fun _ => rfl, fun q2 => oM⟩
   ·exact ⟨x, y, _, h1, rfl, fun q2 => oM, fun q2 => by subst q2; omega⟩
   ·rcases hcap with ⟨q2, _⟩ | ⟨q2, _⟩ <;> omega
  obtain ⟨ob, hob, hOR⟩ := E.obj b X y _ hm hg;obtain ⟨cur, rfl, hNs, hcel, hop, hone⟩ := hOR;have hget : ∀ j, j < zs.length -> cur[j]? = (zs.map (Value.int .i64))[j]? := fun j hj => by
   have h1 := hz j hj;have e0 : (ints zs)[j]? = some (.int .i64 zs[j]) := by
    show (zs.map (Value.int .i64))[j]? = _;rw [List.getElem?_map, List.getElem?_eq_getElem hj]; rfl
   rw [e0] at h1;obtain ⟨v', h2, h3⟩ := hcel j _ h1;rw [h2, h3.int_inv, List.getElem?_map, List.getElem?_eq_getElem hj]; rfl
  have htake : cur.toList.take zs.length = zs.map (Value.int .i64) := by
   apply List.ext_getElem?
   intro j;by_cases hj : j < zs.length
   ·rw [List.getElem?_take_of_lt hj, Array.getElem?_toList]; exact hget j hj
   ·rw [List.getElem?_take_eq_none oM, List.getElem?_eq_none (by simp; omega)]
  have hcap2 : zs.length <= cap := by
   rcases hcap with ⟨q1, q2, q3⟩ | ⟨q1, q2⟩
   ·obtain ⟨x, y', k1, k2⟩ := hop q2
    rw [hm] at k1;cases k1;rw [hvr q1];rw [q3] at k2;omega
   ·rw [hcp q1]; exact q2
  refine CallsIn.mono ((callsIn_wide (n := 0)).2 (h.1 X cap zs cur e w hob htake oM hcap2 hbig)) (fun x w' he => ?_);obtain ⟨rfl, hgr, cur', hw', hs', hcu⟩ := he;have hzl : (ints (T zs)).length = zs.length := by rw [bZ, hT]
  obtain ⟨hE, hB⟩ := E.rowW (h' := h') (tr' := tr') hm hg hh hob hw' hs' hgr (fun j v hj => by
   rw [htr] at hj;by_cases q : j < zs.length
   ·rw [if_pos ⟨Nat.zero_le _, oM⟩, Nat.sub_zero] at hj
    have e0 : (ints (T zs))[j]? = ((T zs).map (Value.int .i64))[j]? := rfl;have hin : v ∈ ints (T zs) := List.mem_of_getElem? hj;obtain ⟨z, _, rfl⟩ := List.mem_map.1 hin;exact ⟨⟨_, by rw [hcu, if_pos q, <- e0]; exact hj, by simp only [VR]⟩, rfl, oM⟩
   ·rw [if_neg (fun k => q (by have := k.2; omega))] at hj
    obtain ⟨v', k1, k2⟩ := hcel j v hj;exact ⟨⟨v', by rw [hcu, if_neg q]; exact k1, k2⟩, hone j v hj⟩)
  refine ⟨_, _, m, hk6, Mp.le_refl m, hE, hB, ?_⟩;cases V with
  | none => exact VR.flat _ rfl
  | some mm =>
   show VR m (.slice (some ⟨b, 0, none⟩) (mm zs) c) (.slice (some ⟨X, 0, none⟩) (mm zs) cap);simp only [VR];refine ⟨trivial, ?_⟩;rcases hcap with ⟨q1, _⟩ | ⟨q1, _⟩
   ·rw [if_neg oM, if_pos (.inl q1)]
    exact ⟨X, y, hm, by rw [hvr q1, q1]; simp⟩
   ·rw [if_pos q1]
    exact ⟨X, y, hm, by rw [hcp q1]⟩
section
variable {P : Program} {C : Nat -> (CF -> Bool) -> Bool} {X : FuncId -> List Value -> St -> (Value -> St -> Bool) -> Bool} {s0 : St} {n nt : Nat} {env : List (Nat × Value)} {A : List Ob} {R : Value -> List Ob -> Prop} {T : List Int -> List Int} {V : Option (List Int -> Nat)}
def kL (P : Program) (X : FuncId -> List Value -> St -> (Value -> St -> Bool) -> Bool) (g : Nat) (T : List Int -> List Int) (V : Option (List Int -> Nat)) : Prop := ∀ vs s k, PU P T V vs s k -> X g vs s k = true
theorem IN {Y : FuncId -> List Value -> St -> (Value -> St -> Bool) -> Bool} {g : Nat} : kL P (II Y (uD P g T V)) g T V := fun vs s k h => by
 show (Y g vs s k || uD P g T V g vs s k) = true;have : uD P g T V g vs s k = true := by
  unfold uD;exact @decide_eq_true _ (Classical.propDecidable _) ⟨rfl, h⟩
 rw [this, Bool.or_true]
theorem IO {Y : FuncId -> List Value -> St -> (Value -> St -> Bool) -> Bool} {g : Nat} (h : kL P X g T V) : kL P (II X Y) g T V := fun vs s k hp => by
 show (X g vs s k || Y g vs s k) = true;rw [h vs s k hp]; rfl
theorem IP {f : Ev.X} {l : List Ev.X} {g b c e : Nat} {op : Bool} {zs : List Int} {z : List Value} {A' : List Ob} (hT : (T zs).length = zs.length) (hX : kL P X g T V) (hf : xv env f = some (.func (.func g) ⟨[]⟩ ⟨[]⟩)) (hl : xE env l = some [.slice (some ⟨b, 0, none⟩) zs.length c]) (hu : mL A b e op (ints zs ++ z) (ints (T zs) ++ z) A') (hc : (c = OPEN /\ op = true /\ P.cellsOf e = 1) ∨ (c < OPEN /\ zs.length <= c)) (hb : zs.length * 8 <= 140737488355328)
 (h : R (Oo V b zs c) A') : eH P C X s0 n nt (.call f l) env A R := .mk fun s hs =>
 Ax hf hl (fun k hk => IK (hX _ _ _ (.inr (by
  obtain ⟨cc, h1, h2, h3⟩ := hs.own hu.own;have hzl : (ints (T zs)).length = (ints zs).length := by rw [bZ, bZ, hT]
  have hil : (ints zs).length = zs.length := bZ;refine ⟨b, c, _, cc, e, op, zs, rfl, h1, by rw [List.length_append, hil]; exact Nat.le_add_right _ _, fun j hj => by rw [h3 j, List.getElem?_append_left oM], hc, hb, ?_⟩;have hal : (ints (T zs) ++ z).length = (ints zs ++ z).length := by rw [List.length_append, List.length_append, hzl]
  refine kB h2 (by rw [List.length_append]; omega) (fun c' hc' hg' => dX hs.wf (dC.lt hs.wf h1) (fun s1 hm1 hn1 hd1 => ?_));refine hk _ _ ⟨A', hs.upd hu hm1 ⟨c', by rw [hal]; exact hd1, by rw [hal]; exact hc', fun j => ?_⟩, h⟩;rw [hg'];by_cases q : j < (ints (T zs)).length
  ·rw [if_pos ⟨Nat.zero_le _, oM⟩, List.getElem?_append_left q]; rfl
  ·rw [if_neg (fun k => q (by have := k.2; omega)), h3, List.getElem?_append_right oM, List.getElem?_append_right oM, hzl]))))
theorem E4 {f : Ev.X} {l : List Ev.X} {g : Nat} (hX : kL P X g T V) (hf : xv env f = some (.func (.func g) ⟨[]⟩ ⟨[]⟩)) (hl : xE env l = some [.slice none 0 0]) (h : R (zX V) A) : eH P C X s0 n nt (.call f l) env A R := .mk fun s hs =>
 Ax hf hl (fun k hk => IK (hX _ _ _ (.inl ⟨rfl, hk _ _ ⟨A, hs, h⟩⟩)))
def E5 (zs : List Int) : List Int := zs.mergeSort fun x y => decide (x <= y)
theorem qC {zs : List Int} : (E5 zs).length = zs.length := List.length_mergeSort _
def E6 (zs : List Int) : List Int := compact zs ++ List.replicate (zs.length - (compact zs).length) 0
theorem AZ {zs : List Int} : (E6 zs).length = zs.length := by
 have := AY zs;unfold E6; rw [List.length_append, List.length_replicate]; omega
def MA : Option (List Int -> Nat) := some fun zs => (compact zs).length
def B8 (TT : Nat) (a : Option Addr) (n c : Nat) (l : List Int) (U : List Ob) : Prop := (a = none /\ n = 0 /\ c = 0 /\ l = [] /\ U = []) ∨ ∃ b z, a = some ⟨b, 0, none⟩ /\ l.length = n /\ c = OPEN /\ U = [.row b TT true (ints l ++ z)]
theorem E7 {f : Ev.X} {l : List Ev.X} {TT g nn c : Nat} {a : Option Addr} {zs : List Int} {U : List Ob} (hX : kL P X g E5 none) (h1c : P.cellsOf TT = 1) (hU : B8 TT a nn c zs U) (hf : xv env f = some (.func (.func g) ⟨[]⟩ ⟨[]⟩)) (hl : xE env l = some [.slice a nn c]) (hb : zs.length * 8 <= 140737488355328)
 (h : ∀ U', B8 TT a nn c (E5 zs) U' -> R (.tuple #[]) (U' ++ A)) : eH P C X s0 n nt (.call f l) env (U ++ A) R := by
 rcases hU with ⟨rfl, rfl, rfl, rfl, rfl⟩ | ⟨b, z, rfl, rfl, rfl, rfl⟩
 ·exact E4 hX hf hl (h [] (.inl ⟨rfl, rfl, rfl, List.eq_nil_of_length_eq_zero (by rw [qC]; rfl), rfl⟩))
 ·exact IP qC hX hf hl .here (.inl ⟨rfl, rfl, h1c⟩) hb (h [.row b TT true (ints (E5 zs) ++ z)] (.inr ⟨b, z, rfl, qC, rfl, rfl⟩))
theorem IQ {f : Ev.X} {l : List Ev.X} {TT g nn c : Nat} {a : Option Addr} {zs : List Int} {U : List Ob} (hX : kL P X g E6 MA) (h1c : P.cellsOf TT = 1) (hU : B8 TT a nn c zs U) (hf : xv env f = some (.func (.func g) ⟨[]⟩ ⟨[]⟩)) (hl : xE env l = some [.slice a nn c]) (hb : zs.length * 8 <= 140737488355328)
 (h : ∀ U', B8 TT a (compact zs).length c (compact zs) U' -> R (.slice a (compact zs).length c) (U' ++ A)) : eH P C X s0 n nt (.call f l) env (U ++ A) R := by
 rcases hU with ⟨rfl, rfl, rfl, rfl, rfl⟩ | ⟨b, z, rfl, rfl, rfl, rfl⟩
 ·have e : compact ([] : List Int) = [] := List.eq_nil_of_length_eq_zero (Nat.le_zero.1 (AY []))
  have h9 := h [] (by rw [e]; exact .inl ⟨rfl, rfl, rfl, rfl, rfl⟩);rw [e] at h9;exact E4 hX hf hl h9
 ·exact IP AZ hX hf hl .here (.inl ⟨rfl, rfl, h1c⟩) hb (h [.row b TT true (ints (E6 zs) ++ z)] (.inr ⟨b, ints (List.replicate (zs.length - (compact zs).length) 0) ++ z, rfl, rfl, rfl, by
   show [Ob.row b TT true (ints (compact zs ++ List.replicate (zs.length - (compact zs).length) 0) ++ z)] = _;rw [show ints (compact zs ++ List.replicate (zs.length - (compact zs).length) 0) = ints (compact zs) ++ ints (List.replicate (zs.length - (compact zs).length) 0) from List.map_append, List.append_assoc]⟩))
end
end
end Go.Proofs.YtjkdkpckjgaplaaGreat.Ev
namespace Go.Proofs.YtjkdkpckjgaplaaGreat
open Go Go.RowKit Go.Lib Go.Sort Go.Proofs
theorem Da (S : IF) (S0 : IG) : Ev.pN Tryz.prog 42 Ev.E5 none := ⟨fun b cap zs cur e W hb ht hn hcap hbig => by
 have hbs : b < W.heap.size := (Array.getElem?_eq_some_iff.1 hb).1;refine (S b 0 cap zs W (holds_of_blockI hb ht) hbs oM).mono ?_;rintro x w' ⟨rfl, n1, os, rfl⟩;have hl : (zs.mergeSort fun x y => decide (x <= y)).length = zs.length := List.length_mergeSort _;refine ⟨rfl, grownBy_sortedI _, _, heap_sortedI _ hb, by simp [putCells], fun j => ?_⟩;rw [PT _ _ _ oM, hl]; rfl, fun W => (S0 none 0 W).mono (by rintro x w' ⟨rfl, rfl⟩; exact ⟨rfl, Below.refl _ _⟩)⟩
theorem FO (S : M1) (S0 : M2) : Ev.pN Tryz.prog 43 Ev.E6 Ev.MA := ⟨fun b cap zs cur e W hb ht hn hcap hbig => by
 refine (S b 0 cap zs W (holds_of_blockI hb ht) oM hcap).mono ?_;rintro x w' ⟨rfl, q, rfl⟩;have hl : (Ev.E6 zs).length = zs.length := Ev.AZ;unfold Ev.E6 at hl;refine ⟨rfl, FN _ ⟨rfl, rfl, rfl, Nat.le_refl _, fun _ _ _ => rfl⟩, _, IH _ hb, by simp [putCells], fun j => ?_⟩;rw [PT _ _ _ oM, hl]; rfl, fun W => (S0 none 0 W).mono (by rintro x w' ⟨rfl, rfl⟩; exact ⟨rfl, Below.refl _ _⟩)⟩
end Go.Proofs.YtjkdkpckjgaplaaGreat
namespace Go.Proofs.YtjkdkpckjgaplaaGreat
open Go Go.RowKit
namespace Ev
theorem MB {P : Program} {C : Nat -> (CF -> Bool) -> Bool} {X : FuncId -> List Value -> St -> (Value -> St -> Bool) -> Bool} {s0 : St} {n nt : Nat} {env : List (Nat × Value)} {A : List Ob} {R : Value -> List Ob -> Prop} {e size bytes b len cap b9 o9 c9 : Nat} {z l : List Value} {x y : Ev.X} {A' : List Ob} (hcap : cap = OPEN) (hx : xv env x = some (.slice (some ⟨b, 0, none⟩) len cap)) (hy : xv env y = some (.slice (some ⟨b9, o9, none⟩) 0 c9)) (hu : mL A b e true l l A') (hfit : len * size <= l.length) (hb1 : len <= 1048576) (hb2 : bytes * len <= 1073741824)
 (h : R (.slice (some ⟨b, 0, none⟩) len OPEN) A') : eH P C X s0 n nt (.app e size bytes z false x y) env A R := .mk fun s hs T hT k hk => by
 refine U5 hT (k := fun x => bF T y (fun y => jC s e size bytes z false x y k)) hx (U5 hT (k := fun y => jC s e size bytes z false _ y k) hy ?_);unfold jC;show ifB (Nat.beq cap 0) _ (ifB (Nat.ble (Nat.add len 0) 1048576) (ifB (Nat.ble (Nat.mul bytes (Nat.add len 0)) 1073741824) (eG s e size b 0 len cap 0 [] k) false) false) = true;rw [xD (show cap ≠ 0 by rw [hcap]; decide)];show ifB (Nat.ble (Nat.add len 0) 1048576) (ifB (Nat.ble (Nat.mul bytes (Nat.add len 0)) 1073741824) (eG s e size b 0 len cap 0 [] k) false) false = true;rw [show Nat.ble (Nat.add len 0) 1048576 = true from by rw [Nat.ble_eq]; exact hb1, show Nat.ble (Nat.mul bytes (Nat.add len 0)) 1073741824 = true from by rw [Nat.ble_eq]; exact hb2];show eG s e size b 0 len cap 0 [] k = true;obtain ⟨c, hc, hf, hg⟩ := hs.own hu.own;unfold eG;refine eW (k := _) hc ?_;show ifB (Nat.beq e e) (ifB (Nat.ble OPEN cap) (ifB true (ifB (Nat.beq 0 0) (ifB (Nat.beq cap OPEN) (ifB (Nat.ble (Nat.mul (Nat.add len 0) size) l.length) (dT c (Nat.mul len size) [] _) _) _) _) _) _) false = true;rw [show Nat.beq e e = true from by rw [Nat.beq_eq], show Nat.ble OPEN cap = true from by rw [Nat.ble_eq]; omega, show Nat.beq cap OPEN = true from by rw [Nat.beq_eq]; exact hcap, show Nat.ble (Nat.mul (Nat.add len 0) size) l.length = true from by rw [Nat.ble_eq]; exact hfit];show cK s b (dK.cells l.length c e true) (fun s => cI (Nat.add len 0) (fun l => k (.slice (some ⟨b, 0, none⟩) l OPEN) s)) = true;refine dX hs.wf (dC.lt hs.wf hc) (fun s1 hm1 hn1 hd1 => ?_);rw [bB];exact hk _ _ ⟨_, hs.upd hu hm1 ⟨c, hd1, hf, hg⟩, h⟩
theorem aI.ownP {s : St} {b e : Nat} {op : Bool} {l : List Int} {z : List Value} (h : Obj s b e op (ints l ++ z)) (hf : ∀ x ∈ l, -9223372036854775808 <= x /\ x < 9223372036854775808) (hl : l.length < 140737488355328) : aI s (some ⟨b, 0, none⟩) l :=
 ⟨fun c hc => by cases hc; rfl, fun _ => ⟨b, 0, rfl⟩, fun c o hc => by
  cases hc;exact h.ats (fun j hj => by rw [Nat.zero_add, List.getElem?_append_left hj]), hf, hl⟩
theorem iG.next {s0 : St} {A : List Ob} {size n : Nat} {more : List Value} {y : Value} {x : Ob} (h : iG s0 A size n more y) : iG s0 (x :: A) size n more y := by
 obtain ⟨b, o, c, h1, h2, h3, h4⟩ := h;refine ⟨b, o, c, h1, h2, h3, ?_⟩;rcases h4 with ⟨e, op, l, h5, h6⟩ | h5
 ·exact .inl ⟨e, op, l, .next h5, h6⟩
 ·exact .inr h5
theorem Db {P : Program} {C : Nat -> (CF -> Bool) -> Bool} {X : FuncId -> List Value -> St -> (Value -> St -> Bool) -> Bool} {s0 : St} {n nt : Nat} {env : List (Nat × Value)} {A : List Ob} {R : Value -> List Ob -> Prop} {A' U : List Ob} {TU k c b9 e9 c9 : Nat} {op9 : Bool} {a : Option Addr} {l : List Int} {v : Int} {z : List Value} {x y : Ev.X} (hU : B8 TU a k c l U) (hA : uX U A A') (hx : xv env x = some (.slice a k c)) (hy : xv env y = some (.slice (some ⟨b9, 0, none⟩) 1 c9)) (ho : kI A' b9 e9 op9 [.int .i64 v]) (hb : k + 1 <= 1000000)
 (h : ∀ b z, R (.slice (some ⟨b, 0, none⟩) (k + 1) OPEN) (.row b TU true (ints (l ++ [v]) ++ z) :: A')) : eH P C X s0 n nt (.app TU 1 8 z false x y) env A R := by
 obtain ⟨A1, A2, e1, e2⟩ := hA.parts;have hsrc : ∀ {B : List Ob}, kI B b9 e9 op9 [Value.int .i64 v] -> iG s0 B 1 1 [Value.int .i64 v] (.slice (some ⟨b9, 0, none⟩) 1 c9) := fun hB => ⟨b9, 0, c9, rfl, rfl, (by intro q; cases q), .inl ⟨_, _, _, hB, pD⟩⟩
 have hi : ints (l ++ [v]) = ints l ++ [Value.int .i64 v] := List.map_append;rcases hU with ⟨rfl, rfl, rfl, rfl, rfl⟩ | ⟨b, z9, rfl, rfl, rfl, rfl⟩
 ·have e : A = A' := by rw [e1, e2]; rfl
  subst e;exact jP hx hy (hsrc ho) dE oM oM (fun b => by have := h b []; exact this)
 ·have hd : eJ A (.row b TU true (ints l ++ z9)) A' := by
   rw [e1, e2];clear e1 e2 hA hsrc h ho
   induction A1 with
   | nil => exact .here
   | cons p A1 ih => exact .next ih
  refine yC hd ?_;have hfl : (ints l).length = l.length * 1 := by rw [bZ, Nat.mul_one]
  cases z9 with
  | nil =>
   rw [List.append_nil];exact dI hx hy (hsrc (.next ho)) .here hfl (.inl ⟨rfl, rfl⟩) dE oM oM (fun b => by have := h b []; rw [List.append_nil, hi] at this; exact this)
  | cons w t =>
   have ho2 : over (ints l ++ w :: t) (l.length * 1) [Value.int .i64 v] = ints (l ++ [v]) ++ t := by
    unfold over;rw [List.take_left' hfl, hi, show (ints l ++ w :: t).drop (l.length * 1 + [Value.int .i64 v].length) = t from by
     rw [List.drop_append, hfl, show l.length * 1 + [Value.int .i64 v].length - l.length * 1 = 1 from by rw [Nat.add_sub_cancel_left]; rfl, List.drop_eq_nil_of_le (by rw [hfl]; exact Nat.le_add_right _ _)]; rfl]
   refine Iw J hx hy (hsrc (.next ho)) (l := ints l ++ w :: t) (by rw [ho2]; exact .here) ?_ oM oM (h b t);rw [List.length_append, hfl, List.length_cons]; omega
def Re (TT : Nat) (a : Option Addr) (n c : Nat) (l : List Int) (U : List Ob) : Prop := (n = 0 /\ c = 0 /\ l = [] /\ U = [] /\ (∀ b, a = some b -> b.spot = none)) ∨ ∃ b, a = some ⟨b, 0, none⟩ /\ l.length = n /\ 0 < n /\ c = OPEN /\ U = [.row b TT true (ints l)]
def Qe (s0 : St) (A : List Ob) (ms : List Int) (y : Value) : Prop := (ms = [] /\ ∃ a c, y = .slice a 0 c /\ (∀ b, a = some b -> b.spot = none) /\ (a = none -> c = 0)) ∨ iG s0 A 1 ms.length (ints ms) y
theorem uE {P : Program} {C : Nat -> (CF -> Bool) -> Bool} {X : FuncId -> List Value -> St -> (Value -> St -> Bool) -> Bool} {s0 : St} {n nt : Nat} {env : List (Nat × Value)} {A : List Ob} {R : Value -> List Ob -> Prop} {A' U : List Ob} {TT k c : Nat} {a : Option Addr} {l ms : List Int} {z : List Value} {x y : Ev.X} {yv : Value} (hU : Re TT a k c l U) (hA : uX U A A') (hx : xv env x = some (.slice a k c)) (hy : xv env y = some yv) (hs : Qe s0 A' ms yv) (hb : k + ms.length <= 1000000)
 (h : ∀ a' c' U', Re TT a' (k + ms.length) c' (l ++ ms) U' -> R (.slice a' (k + ms.length) c') (U' ++ A')) : eH P C X s0 n nt (.app TT 1 8 z false x y) env A R := by
 obtain ⟨A1, A2, e1, e2⟩ := hA.parts;have hi : ints (l ++ ms) = ints l ++ ints ms := List.map_append;rcases hU with ⟨rfl, rfl, rfl, rfl, hsp⟩ | ⟨b, rfl, rfl, h0, rfl, rfl⟩
 ·have e : A = A' := by rw [e1, e2]; rfl
  subst e;rcases hs with ⟨rfl, a', c', rfl, hsp', _⟩ | hs
  ·exact Mb hx hsp hy hsp' (h a 0 [] (.inl ⟨rfl, rfl, rfl, rfl, hsp⟩))
  ·have hm : ms.length ≠ 0 := fun q => by
    obtain ⟨_, _, _, _, _, h3, _⟩ := hs;exact h3 (by rw [List.eq_nil_of_length_eq_zero q]; rfl)
   refine H0 hx hsp hy hs hm oM oM (fun b => ?_);have := h (some ⟨b, 0, none⟩) OPEN [.row b TT true (ints ms)] (.inr ⟨b, rfl, (Nat.zero_add _).symm, oM, rfl, rfl⟩);rw [Nat.zero_add] at this;exact this
 ·have hd : eJ A (.row b TT true (ints l)) A' := by
   rw [e1, e2];clear e1 e2 hA h hs
   induction A1 with
   | nil => exact .here
   | cons p A1 ih => exact .next ih
  refine yC hd ?_;have hfl : (ints l).length = l.length * 1 := by rw [bZ, Nat.mul_one]
  rcases hs with ⟨rfl, a', c', rfl, hsp', hc'⟩ | hs
  ·have h9 : R (.slice (some ⟨b, 0, none⟩) l.length OPEN) (.row b TT true (ints l) :: A') := by
    have := h (some ⟨b, 0, none⟩) OPEN [.row b TT true (ints l)] (.inr ⟨b, rfl, by rw [List.append_nil]; rfl, h0, rfl, by rw [List.append_nil]⟩);exact this
   cases a' with
   | none =>
    have := hc' rfl;subst this;exact HY hx hy .here hfl oM oM h9
   | some p =>
    obtain ⟨pb, po, ps⟩ := p;have : ps = none := hsp' _ rfl;subst this;exact MB J hx hy .here (Nat.le_of_eq hfl.symm) oM oM h9
  ·have hm : ms.length ≠ 0 := fun q => by
    obtain ⟨_, _, _, _, _, h3, _⟩ := hs;exact h3 (by rw [List.eq_nil_of_length_eq_zero q]; rfl)
   refine dI hx hy hs.next .here hfl (.inl ⟨rfl, rfl⟩) hm oM oM (fun b' => ?_);exact h (some ⟨b', 0, none⟩) OPEN [.row b' TT true (ints l ++ ints ms)] (.inr ⟨b', rfl, List.length_append, oM, rfl, by rw [hi]⟩)
def Cn (s : St) (a : Option Addr) (n c : Nat) (l : List Int) : Prop := (a = none /\ n = 0 /\ c = 0 /\ l = []) ∨ ∃ b z, a = some ⟨b, 0, none⟩ /\ l.length = n /\ 0 < n /\ c = OPEN /\ Obj s b 3 true (ints l ++ z)
theorem Cn.ext {s s' : St} {a : Option Addr} {n c : Nat} {l : List Int} (h : Cn s a n c l) (hw : Wf s) (x : qI s s') : Cn s' a n c l := by
 rcases h with h | ⟨b, z, h1, h2, h3, h4, h5⟩
 ·exact .inl h
 ·exact .inr ⟨b, z, h1, h2, h3, h4, h5.ext hw x⟩
theorem Cn.len {s : St} {a : Option Addr} {n c : Nat} {l : List Int} (h : Cn s a n c l) : l.length = n := by
 rcases h with ⟨_, rfl, _, rfl⟩ | ⟨b, z, _, h2, _⟩
 ·rfl
 ·exact h2
theorem B8.spot {TT : Nat} {a : Option Addr} {n c : Nat} {l : List Int} {U : List Ob} (h : B8 TT a n c l U) : ∀ b, a = some b -> b.spot = none := fun b hb => by
 rcases h with ⟨rfl, _⟩ | ⟨b', z, rfl, _⟩
 ·cases hb
 ·cases hb; rfl
theorem B8.len {TT : Nat} {a : Option Addr} {n c : Nat} {l : List Int} {U : List Ob} (h : B8 TT a n c l U) : l.length = n := by
 rcases h with ⟨_, rfl, _, rfl, _⟩ | ⟨b', z, _, h, _⟩
 ·rfl
 ·exact h
theorem B8.rows {TT : Nat} {s0 s : St} {a : Option Addr} {n c : Nat} {l : List Int} {U A : List Ob} (h : B8 TT a n c l U) (hA : U.Sublist A) (hs : fY s0 A s) (hf : ∀ x ∈ l, -9223372036854775808 <= x /\ x < 9223372036854775808) (hl : l.length < 140737488355328) : aI s a l := by
 rcases h with ⟨rfl, _, _, rfl, _⟩ | ⟨b, z, rfl, _, _, h2⟩
 ·exact .nil
 ·exact aI.ownP ((hs.sub hA).own (by rw [h2]; exact .here)) hf hl
def Oq (a : Option Addr) (n c : Nat) (l : List Int) (U : List Ob) : Prop := (a = none /\ n = 0 /\ c = 0 /\ l = [] /\ U = []) ∨ ∃ b, a = some ⟨b, 0, none⟩ /\ l.length = n /\ 0 < n /\ c = OPEN /\ U = [.row b 3 true (ints l)]
theorem Oq.o {a : Option Addr} {n c : Nat} {l : List Int} {U : List Ob} (h : Oq a n c l U) : B8 3 a n c l U := by
 rcases h with h | ⟨b, h1, h2, _, h3, h4⟩
 ·exact .inl h
 ·exact .inr ⟨b, [], h1, h2, h3, by rw [List.append_nil]; exact h4⟩
theorem Oq.ils {a : Option Addr} {n c : Nat} {l : List Int} {U A : List Ob} {s0 s : St} (h : Oq a n c l U) (hA : U.Sublist A) (hs : fY s0 A s) : Cn s a n c l := by
 rcases h with ⟨rfl, rfl, rfl, rfl, rfl⟩ | ⟨b, rfl, rfl, q, rfl, rfl⟩
 ·exact .inl ⟨rfl, rfl, rfl, rfl⟩
 ·exact .inr ⟨b, [], rfl, rfl, q, rfl, (hs.sub hA).own (by rw [List.append_nil]; exact .here)⟩
theorem IR {rw : Nat -> Option (Nat × Nat × Bool)} {b n l k : Nat} (hr : rw b = some (k, 3, true)) (hl : l <= n) (hk : n <= k) : evSlc rw 3 1 (.slice (some ⟨b, 0, none⟩) n OPEN) (some (.int .i64 (l : Int))) none none = some (.slice (some ⟨b, (0 + l) * 1, none⟩) (n - l) (OPEN + (0 + l))) := by
 show sel (Nat.ble OPEN OPEN) (match rw b with
  | some (k, e', op) => sel (op && Nat.beq 3 e' && Nat.beq 0 ((OPEN - OPEN) * 1) && !Nat.beq 1 0 && (Nat.beq OPEN OPEN || !Nat.beq n 0)) (evSlcOpen b 1 l n k (OPEN - OPEN) none) none
  | none => none) (sel (Nat.ble n OPEN) (evSlcAt b 0 n OPEN 1 l n none) none) = _
 rw [hr, show Nat.ble OPEN OPEN = true from by rw [Nat.ble_eq]; exact Nat.le_refl _];show sel (true && Nat.beq 3 3 && Nat.beq 0 ((OPEN - OPEN) * 1) && !Nat.beq 1 0 && (Nat.beq OPEN OPEN || !Nat.beq n 0)) (evSlcOpen b 1 l n k (OPEN - OPEN) none) none = _;rw [Nat.sub_self, show Nat.beq OPEN OPEN = true from by rw [Nat.beq_eq]];show sel (Nat.ble l n && Nat.ble ((0 + n) * 1) k) (some (Value.slice (some ⟨b, (0 + l) * 1, none⟩) (n - l) (OPEN + (0 + l)))) none = _;rw [show Nat.ble l n = true from by rw [Nat.ble_eq]; exact hl, show Nat.ble ((0 + n) * 1) k = true from by rw [Nat.ble_eq]; omega];rfl
def QW (a : Option Addr) (l : Nat) : Option Addr := match a with
 | none => none
 | some p => some ⟨p.block, (0 + l) * 1, none⟩
def QX (a : Option Addr) (l : Nat) : Nat := match a with
 | none => 0
 | some _ => OPEN + (0 + l)
theorem Cn.row {s0 s : St} {b n : Nat} {z : List Value} {l : List Int} (hw : Wf s0) (x : qI s0 s) (h : Obj s0 b 3 true (ints l ++ z)) : iI s b = some ((ints l ++ z).length, 3, true) := by
 obtain ⟨c, h1, _⟩ := h;unfold iI;rw [x.2.2 b (dC.lt hw h1), h1]
theorem IS {P : Program} {C : Nat -> (CF -> Bool) -> Bool} {X : FuncId -> List Value -> St -> (Value -> St -> Bool) -> Bool} {s0 : St} {n nt : Nat} {env : List (Nat × Value)} {A : List Ob} {R : Value -> List Ob -> Prop} {x hi : Ev.X} {a : Option Addr} {m c h : Nat} {l : List Int} {z : Int} (hI : Cn s0 a m c l) (hx : xv env x = some (.slice a m c)) (hi' : xv env hi = some (.int .i64 z)) (hz : z = (h : Int)) (hh : h <= m) (hR : R (.slice a h c) A) : eH P C X s0 n nt (.slc 3 1 x none (some hi) none) env A R := .mk fun s hs T hT k hk => by
 subst hz;refine U5 hT (k := fun x => dJ T none (fun lo => dJ T (some hi) (fun hi => dJ T none (fun mx => kE s 3 1 x lo hi mx (vK s k))))) hx ?_;refine U5 hT (k := fun v => kE s 3 1 _ none (some v) none (vK s k)) hi' ?_;unfold kE;rcases hI with ⟨rfl, rfl, rfl, rfl⟩ | ⟨b, z9, rfl, rfl, h0, rfl, hO⟩
 ·have h9 : h = 0 := Nat.le_zero.1 hh
  subst h9;show dV (Value.slice none 0 0) (vK s k) = true;rw [cL];exact hk _ _ ⟨A, hs, hR⟩
 ·rw [BN (Cn.row (n := 0) hs.1 hs.2.1 hO) (by rw [List.length_append, bZ]; omega)]
  show dV (Value.slice (some ⟨b, 0, none⟩) h OPEN) (vK s k) = true;rw [cL];exact hk _ _ ⟨A, hs, hR⟩
theorem IT {P : Program} {C : Nat -> (CF -> Bool) -> Bool} {X : FuncId -> List Value -> St -> (Value -> St -> Bool) -> Bool} {s0 : St} {n nt : Nat} {env : List (Nat × Value)} {A : List Ob} {R : Value -> List Ob -> Prop} {x lo : Ev.X} {a : Option Addr} {m c h : Nat} {l : List Int} {z : Int} (hI : Cn s0 a m c l) (hx : xv env x = some (.slice a m c)) (hi' : xv env lo = some (.int .i64 z)) (hz : z = (h : Int)) (hh : h <= m) (hR : R (.slice (QW a h) (m - h) (QX a h)) A) : eH P C X s0 n nt (.slc 3 1 x (some lo) none none) env A R := .mk fun s hs T hT k hk => by
 subst hz;refine U5 hT (k := fun x => dJ T (some lo) (fun lo => dJ T none (fun hi => dJ T none (fun mx => kE s 3 1 x lo hi mx (vK s k))))) hx ?_;refine U5 hT (k := fun v => kE s 3 1 _ (some v) none none (vK s k)) hi' ?_;unfold kE;rcases hI with ⟨rfl, rfl, rfl, rfl⟩ | ⟨b, z9, rfl, rfl, h0, rfl, hO⟩
 ·have h9 : h = 0 := Nat.le_zero.1 hh
  subst h9;show dV (Value.slice none 0 0) (vK s k) = true;rw [cL];exact hk _ _ ⟨A, hs, hR⟩
 ·rw [IR (Cn.row (n := 0) hs.1 hs.2.1 hO) hh (by rw [List.length_append, bZ]; omega)]
  show dV (Value.slice (some ⟨b, (0 + h) * 1, none⟩) (l.length - h) (OPEN + (0 + h))) (vK s k) = true;rw [cL];exact hk _ _ ⟨A, hs, hR⟩
theorem A0 {P : Program} {C : Nat -> (CF -> Bool) -> Bool} {X : FuncId -> List Value -> St -> (Value -> St -> Bool) -> Bool} {s0 : St} {n nt : Nat} {env : List (Nat × Value)} {A : List Ob} {R : Value -> List Ob -> Prop} {d : Nat} {x lo : Ev.X} {a : Option Addr} {m c h : Nat} {l : List Int} {z : Int} (hI : Cn s0 a m c l) (hx : xv env x = some (.slice a m c)) (hi' : xv env lo = some (.int .i64 z)) (hz : z = (h : Int)) (hd : look env d = some (.slice (QW a h) (m - h) (QX a h))) (hh : h <= m) (hR : R undef A) : eH P C X s0 n nt (.againS 3 1 x (some lo) none none d) env A R := .mk fun s hs T hT k hk => by
 subst hz;refine U5 hT (k := fun x => dJ T (some lo) (fun lo => dJ T none (fun hi => dJ T none (fun mx => bF T (.t d) (fun d => kE s 3 1 x lo hi mx (fun v => ifB (eqV v d) (k undef s) false)))))) hx ?_;refine U5 hT (k := fun v => bF T (.t d) (fun d => kE s 3 1 _ (some v) none none (fun v => ifB (eqV v d) (k undef s) false))) hi' ?_;refine U5 hT (x := .t d) (k := fun d => kE s 3 1 _ _ none none (fun v => ifB (eqV v d) (k undef s) false)) hd ?_;unfold kE;rcases hI with ⟨rfl, rfl, rfl, rfl⟩ | ⟨b, z9, rfl, rfl, h0, rfl, hO⟩
 ·have h9 : h = 0 := Nat.le_zero.1 hh
  subst h9;show dV (Value.slice none 0 0) (fun v => ifB (eqV v (.slice none 0 0)) (k undef s) false) = true;rw [cL];exact hk _ _ ⟨A, hs, hR⟩
 ·rw [IR (Cn.row (n := 0) hs.1 hs.2.1 hO) hh (by rw [List.length_append, bZ]; omega)]
  show dV (Value.slice (some ⟨b, (0 + h) * 1, none⟩) (l.length - h) (OPEN + (0 + h))) (fun v => ifB (eqV v (.slice (some ⟨b, (0 + h) * 1, none⟩) (l.length - h) (OPEN + (0 + h)))) (k undef s) false) = true;rw [cL, V5 (a := some ⟨b, (0 + h) * 1, none⟩) (fun b' hb' => by cases hb'; rfl)];exact hk _ _ ⟨A, hs, hR⟩
theorem E8 {s0 : St} {A : List Ob} {a : Option Addr} {m c h : Nat} {l : List Int} (hI : Cn s0 a m c l) (hh : h <= m) : Qe s0 A (l.take h) (.slice a h c) := by
 rcases hI with ⟨rfl, rfl, rfl, rfl⟩ | ⟨b, z9, rfl, rfl, h0, rfl, hO⟩
 ·have h9 : h = 0 := Nat.le_zero.1 hh
  subst h9;exact .inl ⟨rfl, none, 0, rfl, (fun b hb => by cases hb), fun _ => rfl⟩
 ·by_cases q : h = 0
  ·subst q
   exact .inl ⟨rfl, some ⟨b, 0, none⟩, OPEN, rfl, (fun b hb => by cases hb; rfl), fun q => by cases q⟩
  ·have hl : (l.take h).length = h := by rw [List.length_take]; omega
   refine .inr ⟨b, 0, OPEN, by rw [hl], by rw [bZ, Nat.mul_one], fun q2 => q (by rw [<- hl, <- bZ (l := l.take h), q2]; rfl), .inr (hO.ats (fun j hj => ?_))⟩;rw [bZ, hl] at hj;rw [Nat.zero_add, List.getElem?_append_left (by rw [bZ]; omega)];show (l.map _)[j]? = ((l.take h).map _)[j]?;rw [List.getElem?_map, List.getElem?_map, List.getElem?_take_of_lt hj]
theorem E9 {s0 : St} {A : List Ob} {a : Option Addr} {m c h : Nat} {l : List Int} (hI : Cn s0 a m c l) (hh : h <= m) : Qe s0 A (l.drop h) (.slice (QW a h) (m - h) (QX a h)) := by
 rcases hI with ⟨rfl, rfl, rfl, rfl⟩ | ⟨b, z9, rfl, rfl, h0, rfl, hO⟩
 ·have h9 : h = 0 := Nat.le_zero.1 hh
  subst h9;exact .inl ⟨rfl, none, 0, rfl, (fun b hb => by cases hb), fun _ => rfl⟩
 ·by_cases q : h = l.length
  ·subst q
   exact .inl ⟨List.drop_eq_nil_of_le (Nat.le_refl _), some ⟨b, (0 + l.length) * 1, none⟩, OPEN + (0 + l.length), by rw [Nat.sub_self]; rfl, (fun b hb => by cases hb; rfl), fun q => by cases q⟩
  ·have hl : (l.drop h).length = l.length - h := List.length_drop
   refine .inr ⟨b, (0 + h) * 1, OPEN + (0 + h), by rw [hl]; rfl, by rw [bZ, Nat.mul_one], fun q2 => q (by
    have h3 : (ints (l.drop h)).length = 0 := by rw [q2]; rfl
    rw [bZ, hl] at h3;omega), .inr (hO.ats (fun j hj => ?_))⟩
   rw [bZ, hl] at hj;rw [List.getElem?_append_left (by rw [bZ]; omega)];show (l.map _)[(0 + h) * 1 + j]? = ((l.drop h).map _)[j]?;rw [List.getElem?_map, List.getElem?_map, List.getElem?_drop, Nat.zero_add, Nat.mul_one]
theorem IU {s0 : St} {A : List Ob} {b e c : Nat} {op : Bool} {x : Int} (h : kI A b e op [.int .i64 x]) : Qe s0 A [x] (.slice (some ⟨b, 0, none⟩) 1 c) := .inr ⟨b, 0, c, rfl, rfl, (by intro q; cases q), .inl ⟨_, _, _, h, pD⟩⟩
def jH : List Int -> Int -> List Int
 | [], x => [x]
 | y :: t, x => if y < x then y :: jH t x else if y = x then y :: t else x :: y :: t
theorem pO {l : List Int} {x z : Int} : z ∈ jH l x ↔ z = x ∨ z ∈ l := by
 induction l with
 | nil => show z ∈ [x] ↔ _; rw [List.mem_singleton]; simp
 | cons y t ih =>
  unfold jH;split
  ·rw [List.mem_cons, ih, List.mem_cons]
   constructor
   ·rintro (h | h | h)
    ·exact .inr (.inl h)
    ·exact .inl h
    ·exact .inr (.inr h)
   ·rintro (h | h | h)
    ·exact .inr (.inl h)
    ·exact .inl h
    ·exact .inr (.inr h)
  ·split
   ·rename_i h1 h2
    subst h2;rw [List.mem_cons]
    constructor
    ·exact fun h => .inr h
    ·rintro (h | h)
     ·exact .inl h
     ·exact h
   ·rw [List.mem_cons]
theorem B9 {l : List Int} {x : Int} (h : l.Pairwise (· < ·)) : (jH l x).Pairwise (· < ·) := by
 induction l with
 | nil => exact List.pairwise_singleton _ _
 | cons y t ih =>
  obtain ⟨h1, h2⟩ := List.pairwise_cons.1 h;unfold jH;split
  ·refine List.pairwise_cons.2 ⟨fun z hz => ?_, ih h2⟩
   rcases pO.1 hz with rfl | q
   ·assumption
   ·exact h1 z q
  ·split
   ·exact h
   ·refine List.pairwise_cons.2 ⟨fun z hz => ?_, h⟩
    rcases List.mem_cons.1 hz with rfl | q
    ·omega
    ·have := h1 z q; omega
theorem wB : ∀ {l : List Int} {x : Int} {k : Nat}, k <= l.length -> (∀ j, j < k -> l.getD j 0 < x) -> (k < l.length -> ¬ l.getD k 0 < x) -> jH l x = if k < l.length /\ l.getD k 0 = x then l else l.take k ++ [x] ++ l.drop k
 | [], x, k, hk, _, _ => by
  have : k = 0 := Nat.le_zero.1 hk;subst this;rw [if_neg (fun q => absurd q.1 (Nat.lt_irrefl _))]; rfl
 | y :: t, x, 0, hk, _, h2 => by
  have h3 : ¬ y < x := h2 (Nat.succ_pos _);unfold jH;rw [if_neg h3];by_cases q : y = x
  ·rw [if_pos q, if_pos ⟨Nat.succ_pos _, q⟩]
  ·rw [if_neg q, if_neg (fun w => q w.2)]; rfl
 | y :: t, x, k + 1, hk, h1, h2 => by
  have h3 : y < x := h1 0 (Nat.succ_pos _);have ih := wB (l := t) (x := x) (k := k) (by rw [List.length_cons] at hk; omega) (fun j hj => by have := h1 (j + 1) oM; rwa [List.getD_cons_succ] at this) (fun hj => by have := h2 (by rw [List.length_cons]; omega); rwa [List.getD_cons_succ] at this);unfold jH;rw [if_pos h3, ih];by_cases q : k < t.length /\ t.getD k 0 = x
  ·rw [if_pos q, if_pos (by rw [List.length_cons, List.getD_cons_succ]; exact ⟨oM, q.2⟩)]
  ·rw [if_neg q, if_neg (by rw [List.length_cons, List.getD_cons_succ]; exact fun w => q ⟨oM, w.2⟩)]; rfl
theorem Ca {l : List Int} {x : Int} : (jH l x).length <= l.length + 1 := by
 induction l with
 | nil => exact Nat.le_refl _
 | cons y t ih =>
  unfold jH;split
  ·rw [List.length_cons, List.length_cons]; omega
  ·split
   ·exact Nat.le_succ _
   ·exact Nat.le_refl _
def cM (l : List Int) (xs : List Int) : List Int := xs.foldl jH l
theorem lX {l xs : List Int} {x : Int} : jH (cM l xs) x = cM l (xs ++ [x]) := by
 unfold cM;rw [List.foldl_append]; rfl
theorem yD {xs : List Int} : ∀ {l : List Int} {z : Int}, z ∈ cM l xs ↔ z ∈ xs ∨ z ∈ l := by
 induction xs with
 | nil => intro l z; show z ∈ l ↔ _; simp
 | cons x xs ih =>
  intro l z;show z ∈ cM (jH l x) xs ↔ _;rw [ih, pO, List.mem_cons]
  constructor
  ·rintro (h | h | h)
   ·exact .inl (.inr h)
   ·exact .inl (.inl h)
   ·exact .inr h
  ·rintro ((h | h) | h)
   ·exact .inr (.inl h)
   ·exact .inl h
   ·exact .inr (.inr h)
theorem Dc {xs : List Int} : ∀ {l : List Int}, l.Pairwise (· < ·) -> (cM l xs).Pairwise (· < ·) := by
 induction xs with
 | nil => intro l h; exact h
 | cons x xs ih => intro l h; exact ih (B9 h)
theorem Dd {xs : List Int} : ∀ {l : List Int}, (cM l xs).length <= l.length + xs.length := by
 induction xs with
 | nil => intro l; exact Nat.le_refl _
 | cons x xs ih =>
  intro l;have h1 := ih (l := jH l x);have h2 := Ca (l := l) (x := x);show (cM (jH l x) xs).length <= l.length + (xs.length + 1);omega
def wC (rs cs : List (List Int)) : List Int := rs.map (fun r => r.getD 0 0) ++ cs.map (fun r => r.getD 0 0)
def yE (rs : List (List Int)) (k : Nat) : List Int := (rs.take k).map (fun r => r.getD 0 0)
theorem zY {rs : List (List Int)} {k : Nat} {r : List Int} (h : rs[k]? = some r) : yE rs (k + 1) = yE rs k ++ [r.getD 0 0] := by
 unfold yE;rw [List.take_add_one, h, List.map_append]; rfl
theorem Cb {rs : List (List Int)} : yE rs rs.length = rs.map (fun r => r.getD 0 0) := by unfold yE; rw [List.take_length]
theorem Cc {rs : List (List Int)} {k : Nat} (h : k <= rs.length) : (yE rs k).length = k := by unfold yE; rw [List.length_map, List.length_take]; omega
def sU (r : Int) (rs cs : List (List Int)) : List Int := jH (cM [] (wC rs cs)) r
theorem IV {r : Int} {rs cs : List (List Int)} : C9 (C9 (wC rs cs) ++ [r]) = sU r rs cs := by
 refine E2 _ _ (Mz _) (B9 (Dc List.Pairwise.nil)) (fun z => ?_);unfold sU;rw [E3, List.mem_append, E3, List.mem_singleton, pO, yD]
 constructor
 ·rintro (h | h)
  ·exact .inr (.inl h)
  ·exact .inl h
 ·rintro (h | h | h)
  ·exact .inr h
  ·exact .inl h
  ·cases h
section
variable {X : FuncId -> List Value -> St -> (Value -> St -> Bool) -> Bool}
end
end Ev
end Go.Proofs.YtjkdkpckjgaplaaGreat
