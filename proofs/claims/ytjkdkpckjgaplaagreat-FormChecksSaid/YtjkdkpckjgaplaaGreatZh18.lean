import Derived.Test.YtjkdkpckjgaplaaGreatZh17
import Derived.Test.YtjkdkpckjgaplaaGreatZh10
import Derived.Test.YtjkdkpckjgaplaaGreatProg
import Derived.Test.YtjkdkpckjgaplaaGreatZh11
import Derived.Test.YtjkdkpckjgaplaaGreatZh09
import Derived.KernelRfl
import Derived.Test.YtjkdkpckjgaplaaGreatZh08
import Derived.Test.YtjkdkpckjgaplaaGreatZh05
set_option linter.unusedVariables false
set_option linter.unusedSimpArgs false
namespace Go.Proofs.YtjkdkpckjgaplaaGreat
open Go Go.RowKit
namespace Ev
def mX (rs cs : List (List Int)) (k j : Nat) : List Int := yE rs k ++ yE cs j
theorem IW {rs cs : List (List Int)} {k : Nat} {r : List Int} (h : rs[k]? = some r) : mX rs cs (k + 1) 0 = mX rs cs k 0 ++ [r.getD 0 0] := by
 unfold mX;rw [zY h, show yE cs 0 = [] from rfl, List.append_nil, List.append_nil]
theorem IX {rs cs : List (List Int)} {k j : Nat} {r : List Int} (h : cs[j]? = some r) : mX rs cs k (j + 1) = mX rs cs k j ++ [r.getD 0 0] := by
 unfold mX;rw [zY h, List.append_assoc]
theorem wD {rs cs : List (List Int)} : mX rs cs rs.length cs.length = wC rs cs := by unfold mX wC; rw [Cb, Cb]
theorem wE {rs cs : List (List Int)} {k j : Nat} (hk : k <= rs.length) (hj : j <= cs.length) : (mX rs cs k j).length = k + j := by unfold mX; rw [List.length_append, Cc hk, Cc hj]
theorem Cd {rs : List (List Int)} {k : Nat} (h : ∀ r ∈ rs, ∀ x ∈ r, -9223372036854775808 <= x /\ x < 9223372036854775808) : ∀ z ∈ yE rs k, -9223372036854775808 <= z /\ z < 9223372036854775808 := fun z hz => by
 obtain ⟨r, hr, rfl⟩ := List.mem_map.1 hz;have hr2 := List.mem_of_mem_take hr;cases r with
 | nil => show -9223372036854775808 <= (0 : Int) /\ (0 : Int) < 9223372036854775808; omega
 | cons a t => exact h _ hr2 a (List.mem_cons_self ..)
theorem wF {rs cs : List (List Int)} {k j : Nat} (h : ∀ r ∈ rs, ∀ x ∈ r, -9223372036854775808 <= x /\ x < 9223372036854775808) (h2 : ∀ r ∈ cs, ∀ x ∈ r, -9223372036854775808 <= x /\ x < 9223372036854775808) : ∀ z ∈ mX rs cs k j, -9223372036854775808 <= z /\ z < 9223372036854775808 := fun z hz => by
 rcases List.mem_append.1 hz with q | q
 ·exact Cd h z q
 ·exact Cd h2 z q
theorem sV {xs : List Int} (h : ∀ z ∈ xs, -9223372036854775808 <= z /\ z < 9223372036854775808) : ∀ z ∈ cM [] xs, -9223372036854775808 <= z /\ z < 9223372036854775808 := fun z hz => by
 rcases yD.1 hz with q | q
 ·exact h z q
 ·cases q
theorem Ce {l : List Int} {x : Int} : 0 < (jH l x).length := List.length_pos_of_mem (pO.2 (.inl rfl))
theorem yF {xs : List Int} : (cM [] xs).length <= xs.length := by have := Dd (xs := xs) (l := []); rwa [List.length_nil, Nat.zero_add] at this
section
variable {X : FuncId -> List Value -> St -> (Value -> St -> Bool) -> Bool}
theorem IY (n : Nat) (a : Option Addr) (c : Nat) (l : List Int) (x : Int) (s : St) (hs : Wf s) (hn : 281474976710656 <= n) (hl : aI s a l) (hI : Cn s a l.length c l) (h4 : l.length <= 1000) : bW Tryz.prog (cA cH) X (n + 400) 44 [.slice a l.length c, .int .i64 x] s (fun v A => (jH l x = l /\ v = .slice a l.length c /\ A = []) ∨ (∃ b, v = .slice (some ⟨b, 0, none⟩) (jH l x).length OPEN /\ A = [.row b 3 true (ints (jH l x))])) := by
 refine enter LC rfl hs ?_;unfold Kl;have hlen := hl.len;refine rS (kM J J (Q0 (rS (kM J J (Q0 (rQ (W1 (U4 (fun j e A => ∃ (k : Nat), e = [(0, .slice a l.length c), (1, .int .i64 x), (5, .int .i64 (k : Int))] /\ A = [] /\ j = l.length - k /\ k <= l.length /\ (∀ j, j < k -> l.getD j 0 < x)) 200 0 281474976710656 ?_ (j := _) (env2 := _) (A2 := _) ?_ ?_ ?_ ?_ ⟨0, rfl, rfl, rfl, Nat.zero_le _, (fun j hj => oM)⟩))))))))
 rotate_left
 ·omega
 ·omega
 ·exact lL
 ·exact .slnil
 rintro n hn j _ _ ⟨k, rfl, rfl, rfl, hk, hlt⟩;refine rQ (rS (kM J J (kM J J (kO J (aJ J hl.spot (kO J (W5 J J (fun h1 => ?_) (fun h1 => ?_))))))))
 ·refine kM J J (kG J J (U2 J (kG J J (U2 J (kG J J (Q7 (j := k) hl rfl rfl oM (by first | rfl | omega) oM (fun _ _ a2 => (kG J J (W6 J (hl.at a2 oM) (kG J J (U2 J (kG J J (W5 J J (fun h3 => ?_) (fun h3 => ?_))))))))))))))
  ·have hlk : l.getD k 0 < x := h3
   refine kO J (W2 J J J (Q0 (Y0 J (Q1 (W0 (W1 (rI (kM J J (kO J (Y3 J J oM (kM J J (Q0 (Z1 (W0 ?_))))))))))))));exact ⟨rfl, _, _, _, (show l.length - (k + 1) < l.length - k from oM), lL, .slnil, ⟨k + 1, rfl, rfl, rfl, oM, (fun j hj => by rcases Nat.lt_or_eq_of_le (Nat.le_of_lt_succ hj) with q | q; exact hlt j q; rw [q]; exact hlk)⟩⟩
  ·refine kO J (W2 J J J (Q0 (U0 J (Y4 (Z2 (Z2 (Q3 (W0 (rQ (rS (kM J J (kM J J (kO J (aJ J hl.spot (kO J (W5 J J (fun h4 => ?_) (fun h4 => ?_)))))))))))))))))
   ·refine kM J J (kG J J (U2 J (kG J J (U2 J (kG J J (Q7 (j := k) hl rfl rfl oM (by first | rfl | omega) oM (fun _ _ a5 => (kG J J (W6 J (hl.at a5 oM) (kG J J (U2 J (kG J J (bS J J (fun h6 => ?_) (fun h6 => ?_))))))))))))))
    ·refine kO J (W2 J J J (Q0 (Y0 J (rS (kM J J (kM J J (Q0 (V2 (W3 ?_)))))))))
     exact fI J (List.nil_sublist _) (.inl ⟨by rw [wB hk hlt (fun _ => oM), if_pos ⟨oM, aM⟩], rfl, rfl⟩)
    ·refine kO J (W2 J J J (Q0 (U0 J (Q1 (W0 (rS ?_))))))
     have hpu : jH l x = l.take k ++ [x] ++ l.drop k := by rw [wB hk hlt (fun q => oM), if_neg (fun q => oM)]
     refine kO J (bO J J J (fun b7 => (kM J J (kM J J (kO J (IS (h := k) hI rfl rfl rfl oM (kM J J (kO J (bO J J J (fun b8 => (kM J J (kM J J (kO J (IT (h := k) hI rfl rfl rfl oM (kO J (uE (l := []) (ms := (l.take k)) (.inl ⟨rfl, rfl, rfl, rfl, fun b hb => by cases hb; rfl⟩) .here rfl rfl (E8 hI oM) (by simp only [List.length_take, List.length_drop, List.length_nil, List.length_cons]; omega) (fun a7 c7 U7 hU7 => (kZ J (A0 hI rfl rfl rfl rfl oM (kO J (uE (l := ([] ++ l.take k)) (ms := [x]) hU7 .here rfl rfl (IU .here) (by simp only [List.length_take, List.length_drop, List.length_nil, List.length_cons]; omega) (fun a8 c8 U8 hU8 => (kZ J (A0 hI rfl rfl rfl rfl oM (kO J (uE (l := ([] ++ l.take k ++ [x])) (ms := (l.drop k)) hU8 .here rfl rfl (E9 hI oM) (by simp only [List.length_take, List.length_drop, List.length_nil, List.length_cons]; omega) (fun a9 c9 U9 hU9 => (kM J J (Q0 (V2 ?_))))))))))))))))))))))))))))));obtain ⟨b9, rfl, hl9, _, rfl, rfl⟩ := hU9.resolve_left (fun q => by have h1 := q.1; rw [show ([x] : List Int).length = 1 from rfl] at h1; omega);rw [List.nil_append, <- hpu] at hl9 ⊢;exact fI J (.r (.cons _ (.cons _ .slnil))) (.inr ⟨b9, by rw [hl9], rfl⟩)
   ·exfalso; omega
 ·refine kM J J (V0 J J (V0 J J (V0 J J (V0 J J (V0 J J (V0 J J (kO J (U1 J J J (Q0 (U0 J (Y4 (Z2 (Z2 (Q3 (W0 (rQ (rS (kM J J (kM J J (kO J (aJ J hl.spot (kO J (W5 J J (fun h9 => ?_) (fun h9 => ?_))))))))))))))))))))))))
  ·exfalso; omega
  ·refine kM J J (V0 J J (V0 J J (V0 J J (V0 J J (V0 J J (V0 J J (kO J (U1 J J J (Q0 (U0 J (Q1 (W0 (rS ?_)))))))))))))
   have hpu : jH l x = l.take k ++ [x] ++ l.drop k := by rw [wB hk hlt (fun q => oM), if_neg (fun q => oM)]
   refine kO J (bO J J J (fun b10 => (kM J J (kM J J (kO J (IS (h := k) hI rfl rfl rfl oM (kM J J (kO J (bO J J J (fun b11 => (kM J J (kM J J (kO J (IT (h := k) hI rfl rfl rfl oM (kO J (uE (l := []) (ms := (l.take k)) (.inl ⟨rfl, rfl, rfl, rfl, fun b hb => by cases hb; rfl⟩) .here rfl rfl (E8 hI oM) (by simp only [List.length_take, List.length_drop, List.length_nil, List.length_cons]; omega) (fun a7 c7 U7 hU7 => (kZ J (A0 hI rfl rfl rfl rfl oM (kO J (uE (l := ([] ++ l.take k)) (ms := [x]) hU7 .here rfl rfl (IU .here) (by simp only [List.length_take, List.length_drop, List.length_nil, List.length_cons]; omega) (fun a8 c8 U8 hU8 => (kZ J (A0 hI rfl rfl rfl rfl oM (kO J (uE (l := ([] ++ l.take k ++ [x])) (ms := (l.drop k)) hU8 .here rfl rfl (E9 hI oM) (by simp only [List.length_take, List.length_drop, List.length_nil, List.length_cons]; omega) (fun a9 c9 U9 hU9 => (kM J J (Q0 (V2 ?_))))))))))))))))))))))))))))));obtain ⟨b9, rfl, hl9, _, rfl, rfl⟩ := hU9.resolve_left (fun q => by have h1 := q.1; rw [show ([x] : List Int).length = 1 from rfl] at h1; omega);rw [List.nil_append, <- hpu] at hl9 ⊢;exact fI J (.r (.cons _ (.cons _ .slnil))) (.inr ⟨b9, by rw [hl9], rfl⟩)
theorem FP (n : Nat) (d r al up : Int) (a1 a2 : Option Addr) (c1 c2 : Nat) (l1 l2 : List Int) (a3 a4 : Option Addr) (c3 c4 : Nat) (rs cs : List (List Int)) (s : St) (hs : Wf s) (hn : 1125899906842624 <= n) (hl1 : aI s a1 l1) (hl2 : aI s a2 l2) (hr : RowsE s 7 a3 rs) (hc : RowsE s 6 a4 cs) (h60 : rs.length <= 60) (h20 : cs.length <= 20) : bW Tryz.prog (cA cH) X (n + 1000) 45 [.agg ⟨[.int .i64 d, .int .i64 r, .slice a1 l1.length c1, .slice a2 l2.length c2, .int .i64 al, .int .i64 up, .slice a3 rs.length c3, .slice a4 cs.length c4]⟩] s (fun v A => ∃ a c U, v = .slice a (cM [] (wC rs cs)).length c /\ A = U /\ Oq a (cM [] (wC rs cs)).length c (cM [] (wC rs cs)) U /\ (cM [] (wC rs cs)).length <= rs.length + cs.length) := by
 refine enter LD rfl hs ?_;unfold Kn;have hlen1 := hl1.len;have hlen2 := hl2.len;have hlen3 := hr.len;have hlen4 := hc.len;refine rS (kO J (bI J J J (fun b1 => (kM J J (Q0 (rS (kM J J (Q0 (rQ (rS (kM J J (Q0 (W1 ?_)))))))))))));refine U4 (fun j e A => ∃ (k : Nat) (aO : Option Addr) (nO cO : Nat) (OU : List Ob), e = [(1, .pointer (some ⟨b1, 0, none⟩)), (3, .slice aO nO cO), (4, .int .i64 (k : Int))] /\ A = (OU ++ (.row b1 37 false ([.int .i64 d, .int .i64 r, .slice a1 l1.length c1, .slice a2 l2.length c2, .int .i64 al, .int .i64 up, .slice a3 rs.length c3, .slice a4 cs.length c4]) :: [])) /\ j = rs.length - k /\ k <= rs.length /\ nO = (cM [] (mX rs cs k 0)).length /\ Oq aO nO cO (cM [] (mX rs cs k 0)) OU) 500 562949953421312 281474976710656 ?_ (j := _) (env2 := _) (A2 := _) ?_ ?_ ?_ ?_ ⟨0, none, 0, 0, [], rfl, rfl, rfl, Nat.zero_le _, rfl, (.inl ⟨rfl, rfl, rfl, rfl, rfl⟩)⟩
 rotate_left
 ·omega
 ·omega
 ·exact lL
 ·exact (.q .slnil)
 rintro n hn j _ _ ⟨k, aO, nO, cO, OU, rfl, rfl, rfl, hk, hnO, hU⟩;subst hnO;have hspO := hU.o.spot;have hal9 := yF (xs := (mX rs cs k 0));rw [wE (cs := cs) hk (Nat.zero_le _)] at hal9;refine rQ (rS (kM J J (kO J (Q2 J (kO J (Y1 J (.app .here) J (kO J (aJ J (by first | exact hr.spot | exact hc.spot) (kO J (W5 J J (fun h2 => ?_) (fun h2 => ?_)))))))))))
 ·obtain ⟨q7, o7, x0, x1, x2, x3, x4, x5, x6, ahr, hx, hat, i0, i1, i2, i3, i4, i5, i6⟩ := hr.row7 (k := k) oM
  have hat2 := hat;obtain ⟨d0, d1, d2, d3, d4, d5, d6, _⟩ := hat2;have := i0.lo; have := i0.hi;have := i1.lo; have := i1.hi;have := i2.lo; have := i2.hi;have := i3.lo; have := i3.hi;have := i4.lo; have := i4.hi;have := i5.lo; have := i5.hi;have := i6.lo; have := i6.hi;refine Q0 (Y0 J (Q1 (W0 (rQ (W1 (rI (kM J J (kO J (Q2 J (kO J (Y1 J (.app .here) J (kM J J (kO J (bK (j := k) ahr rfl rfl (by first | rfl | omega) (by first | decide | omega) (kO J (Q2 J (kO J (W6 J aM (kO J (Z4 J J (fun s1 h1 => IY _ aO cO (cM [] (mX rs cs k 0)) x0 s1 h1.wf oM (hU.o.rows sA h1 (sV (wF hr.fit hc.fit)) oM) (hU.ils sA h1) oM) (fun v1 A1 q1 => ?_)))))))))))))))))))));rcases q1 with ⟨hpe, rfl, rfl⟩ | ⟨bP, rfl, rfl⟩
  ·rw [List.nil_append]
   refine kM J J (Q0 (Z1 (W0 (rI (kM J J (kO J (Y3 J J oM (kM J J (Q0 (W0 ?_))))))))));have hst : cM [] (mX rs cs (k + 1) 0) = jH (cM [] (mX rs cs k 0)) x0 := by rw [IW hx, <- lX]; rfl
   exact ⟨rfl, _, _, _, (show rs.length - (k + 1) < rs.length - k from oM), lL, (.r (.q .slnil)), ⟨k + 1, aO, _, cO, OU, rfl, rfl, rfl, oM, (by rw [hst, hpe]), (by rw [hst, hpe]; exact hU)⟩⟩
  ·rw [List.singleton_append]
   refine kM J J (Q0 (Z1 (W0 (rI (kM J J (kO J (Y3 J J oM (kM J J (Q0 (W0 ?_))))))))));have hst : cM [] (mX rs cs (k + 1) 0) = jH (cM [] (mX rs cs k 0)) x0 := by rw [IW hx, <- lX]; rfl
   exact ⟨rfl, _, _, _, (show rs.length - (k + 1) < rs.length - k from oM), lL, (.q (sR (.q .slnil))), ⟨k + 1, some ⟨bP, 0, none⟩, _, OPEN, [.row bP 3 true (ints (jH (cM [] (mX rs cs k 0)) x0))], rfl, rfl, rfl, oM, (by rw [hst]), (by rw [hst]; exact .inr ⟨bP, rfl, rfl, Ce, rfl, rfl⟩)⟩⟩
 ·refine Q0 (U0 J (Y4 (Z2 (Z2 (Q3 (W0 (rQ (rS (kM J J (Q0 (W1 ?_)))))))))))
  obtain rfl : k = rs.length := oM
  refine U4 (fun j e A => ∃ (k : Nat) (aO : Option Addr) (nO cO : Nat) (OU : List Ob), e = [(1, .pointer (some ⟨b1, 0, none⟩)), (3, .slice aO nO cO), (5, .int .i64 (k : Int))] /\ A = (OU ++ (.row b1 37 false ([.int .i64 d, .int .i64 r, .slice a1 l1.length c1, .slice a2 l2.length c2, .int .i64 al, .int .i64 up, .slice a3 rs.length c3, .slice a4 cs.length c4]) :: [])) /\ j = cs.length - k /\ k <= cs.length /\ nO = (cM [] (mX rs cs rs.length k)).length /\ Oq aO nO cO (cM [] (mX rs cs rs.length k)) OU) 500 562949953421312 281474976710656 ?_ (j := _) (env2 := _) (A2 := _) ?_ ?_ ?_ ?_ ⟨0, aO, _, cO, OU, rfl, rfl, rfl, Nat.zero_le _, rfl, hU⟩
  rotate_left
  ·omega
  ·omega
  ·exact lL
  ·exact (.r (.q .slnil))
  rintro n hn j _ _ ⟨k, aO, nO, cO, OU, rfl, rfl, rfl, hk, hnO, hU⟩;subst hnO;have hspO := hU.o.spot;have hal9 := yF (xs := (mX rs cs rs.length k));rw [wE (Nat.le_refl _) hk] at hal9;refine rQ (rS (kM J J (kO J (Q2 J (kO J (Y1 J (.app .here) J (kO J (aJ J (by first | exact hr.spot | exact hc.spot) (kO J (W5 J J (fun h3 => ?_) (fun h3 => ?_)))))))))))
  ·obtain ⟨q6, o6, z0, z1, z2, z3, z4, z5, ahc, hz, hat, j0, j1, j2, j3, j4, j5⟩ := hc.row6 (k := k) oM
   have hat2 := hat;obtain ⟨e0, e1, e2, e3, e4, e5, _⟩ := hat2;have := j0.lo; have := j0.hi;have := j1.lo; have := j1.hi;have := j2.lo; have := j2.hi;have := j3.lo; have := j3.hi;have := j4.lo; have := j4.hi;have := j5.lo; have := j5.hi;refine Q0 (Y0 J (Q1 (W0 (rQ (W1 (rI (kM J J (kO J (Q2 J (kO J (Y1 J (.app .here) J (kM J J (kO J (bK (j := k) ahc rfl rfl (by first | rfl | omega) (by first | decide | omega) (kO J (Q2 J (kO J (W6 J aM (kO J (Z4 J J (fun s1 h1 => IY _ aO cO (cM [] (mX rs cs rs.length k)) z0 s1 h1.wf oM (hU.o.rows sA h1 (sV (wF hr.fit hc.fit)) oM) (hU.ils sA h1) oM) (fun v1 A1 q1 => ?_)))))))))))))))))))));rcases q1 with ⟨hpe, rfl, rfl⟩ | ⟨bP, rfl, rfl⟩
   ·rw [List.nil_append]
    refine kM J J (Q0 (Z1 (W0 (rI (kM J J (kO J (Y3 J J oM (kM J J (Q0 (W0 ?_))))))))));have hst : cM [] (mX rs cs rs.length (k + 1)) = jH (cM [] (mX rs cs rs.length k)) z0 := by rw [IX hz, <- lX]; rfl
    exact ⟨rfl, _, _, _, (show cs.length - (k + 1) < cs.length - k from oM), lL, (.r (.q .slnil)), ⟨k + 1, aO, _, cO, OU, rfl, rfl, rfl, oM, (by rw [hst, hpe]), (by rw [hst, hpe]; exact hU)⟩⟩
   ·rw [List.singleton_append]
    refine kM J J (Q0 (Z1 (W0 (rI (kM J J (kO J (Y3 J J oM (kM J J (Q0 (W0 ?_))))))))));have hst : cM [] (mX rs cs rs.length (k + 1)) = jH (cM [] (mX rs cs rs.length k)) z0 := by rw [IX hz, <- lX]; rfl
    exact ⟨rfl, _, _, _, (show cs.length - (k + 1) < cs.length - k from oM), lL, (.q (sR (.q .slnil))), ⟨k + 1, some ⟨bP, 0, none⟩, _, OPEN, [.row bP 3 true (ints (jH (cM [] (mX rs cs rs.length k)) z0))], rfl, rfl, rfl, oM, (by rw [hst]), (by rw [hst]; exact .inr ⟨bP, rfl, rfl, Ce, rfl, rfl⟩)⟩⟩
  ·refine Q0 (U0 J (Y4 (Z2 (Z2 (Q3 (W0 (rS (kM J J (kM J J (Q0 (V2 ?_)))))))))))
   obtain rfl : k = cs.length := oM
   rw [wD] at hU hal9 ⊢;exact fI J (.r (.cons _ .slnil)) ⟨aO, cO, OU, rfl, by rw [List.append_nil], hU, hal9⟩
theorem De (n : Nat) (d r al up : Int) (a1 a2 : Option Addr) (c1 c2 : Nat) (l1 l2 : List Int) (a3 a4 : Option Addr) (c3 c4 : Nat) (rs cs : List (List Int)) (s : St) (hs : Wf s) (hn : 1125899906842624 <= n) (hl1 : aI s a1 l1) (hl2 : aI s a2 l2) (hr : RowsE s 7 a3 rs) (hc : RowsE s 6 a4 cs) (hXs : kL Tryz.prog X 42 E5 none) (hXc : kL Tryz.prog X 43 E6 MA) (h1c : Tryz.prog.cellsOf 3 = 1) (h60 : rs.length <= 60) (h20 : cs.length <= 20) : bW Tryz.prog (cA cH) X (n + 1000) 41 [.agg ⟨[.int .i64 d, .int .i64 r, .slice a1 l1.length c1, .slice a2 l2.length c2, .int .i64 al, .int .i64 up, .slice a3 rs.length c3, .slice a4 cs.length c4]⟩] s (fun v A => ∃ a c U, v = .slice a (C9 (wC rs cs)).length c /\ A = U /\ B8 3 a (C9 (wC rs cs)).length c (C9 (wC rs cs)) U) := by
 refine enter LB rfl hs ?_;unfold Kj;have hlen1 := hl1.len;have hlen2 := hl2.len;have hlen3 := hr.len;have hlen4 := hc.len;refine rS (kO J (bI J J J (fun b1 => (kM J J (Q0 (rS (kM J J (Q0 (rQ (rS (kO J (Q2 J (kO J (Y1 J .here rfl (kO J (aJ J (by first | exact hr.spot | exact hc.spot) (kM J J (Q0 (W1 ?_)))))))))))))))))));refine U4 (fun j e A => ∃ (k : Nat) (aO : Option Addr) (nO cO : Nat) (OU : List Ob), e = [(1, .pointer (some ⟨b1, 0, none⟩)), (3, .slice aO nO cO), (9, .slice a3 rs.length c3), (10, .int .i64 (rs.length : Int)), (11, .int .i64 (k : Int))] /\ A = (OU ++ (.row b1 37 false ([.int .i64 d, .int .i64 r, .slice a1 l1.length c1, .slice a2 l2.length c2, .int .i64 al, .int .i64 up, .slice a3 rs.length c3, .slice a4 cs.length c4]) :: [])) /\ j = rs.length - k /\ k <= rs.length /\ nO = (mX rs cs k 0).length /\ B8 3 aO nO cO (mX rs cs k 0) OU) 400 562949953421312 281474976710656 ?_ (j := _) (env2 := _) (A2 := _) ?_ ?_ ?_ ?_ ⟨0, none, 0, 0, [], rfl, rfl, rfl, Nat.zero_le _, rfl, (.inl ⟨rfl, rfl, rfl, rfl, rfl⟩)⟩
 rotate_left
 ·omega
 ·omega
 ·exact lL
 ·exact (.q .slnil)
 rintro n hn j _ _ ⟨k, aO, nO, cO, OU, rfl, rfl, rfl, hk, hnO, hU⟩;subst hnO;have hspO := hU.spot;have hal9 := wE (rs := rs) (cs := cs) hk (Nat.zero_le _);refine rS (kO J (W5 J J (fun h2 => ?_) (fun h2 => ?_)))
 ·obtain ⟨q7, o7, x0, x1, x2, x3, x4, x5, x6, ahr, hx, hat, i0, i1, i2, i3, i4, i5, i6⟩ := hr.row7 (k := k) oM
  have hat2 := hat;obtain ⟨d0, d1, d2, d3, d4, d5, d6, _⟩ := hat2;have := i0.lo; have := i0.hi;have := i1.lo; have := i1.hi;have := i2.lo; have := i2.hi;have := i3.lo; have := i3.hi;have := i4.lo; have := i4.hi;have := i5.lo; have := i5.hi;have := i6.lo; have := i6.hi;refine Q0 (rQ (Y0 J (Q1 (W0 (rQ (W1 (rS (kO J (bK (j := k) ahr rfl rfl (by first | rfl | omega) (by first | decide | omega) (kO J (cV J dE aM J (kO J (bG J J (fun b3 => (kZ J (Q6 J J .here rfl rfl rfl rfl (Q0 (rI (kM J J (kO J (Q2 J (kO J (Y1 J .here rfl (kO J (bO J J J (fun b4 => (kO J (Db hU .h2 J J .here oM (fun b99 z99 => (kM J J (Q0 (Z1 (W0 (rI ?_))))))))))))))))))))))))))))))))));refine kO J (Y3 J J oM (kM J J (Q0 (W0 ?_))));have hst : (mX rs cs (k + 1) 0) = (mX rs cs k 0) ++ [x0] := by rw [IW hx]; rfl
  exact ⟨rfl, _, _, _, (show rs.length - (k + 1) < rs.length - k from oM), lL, (.q (.cons _ (.cons _ (.q .slnil)))), ⟨k + 1, some ⟨b99, 0, none⟩, _, OPEN, [.row b99 3 true (ints ((mX rs cs k 0) ++ [x0]) ++ z99)], rfl, rfl, rfl, oM, (by rw [hst, List.length_append]; rfl), (by rw [hst]; exact .inr ⟨b99, z99, rfl, by rw [List.length_append]; rfl, rfl, rfl⟩)⟩⟩
 ·refine Q0 (rQ (U0 J (Y4 (Z2 (Z2 (Q3 (W0 (rQ (rS (kO J (Q2 J (kO J (Y1 J (.app .here) J (kO J (aJ J (by first | exact hr.spot | exact hc.spot) (kM J J (Q0 (W1 ?_))))))))))))))))))
  obtain rfl : k = rs.length := oM
  refine U4 (fun j e A => ∃ (k : Nat) (aO : Option Addr) (nO cO : Nat) (OU : List Ob), e = [(1, .pointer (some ⟨b1, 0, none⟩)), (3, .slice aO nO cO), (22, .slice a4 cs.length c4), (23, .int .i64 (cs.length : Int)), (24, .int .i64 (k : Int))] /\ A = (OU ++ (.row b1 37 false ([.int .i64 d, .int .i64 r, .slice a1 l1.length c1, .slice a2 l2.length c2, .int .i64 al, .int .i64 up, .slice a3 rs.length c3, .slice a4 cs.length c4]) :: [])) /\ j = cs.length - k /\ k <= cs.length /\ nO = (mX rs cs rs.length k).length /\ B8 3 aO nO cO (mX rs cs rs.length k) OU) 400 562949953421312 281474976710656 ?_ (j := _) (env2 := _) (A2 := _) ?_ ?_ ?_ ?_ ⟨0, aO, _, cO, OU, rfl, rfl, rfl, Nat.zero_le _, rfl, hU⟩
  rotate_left
  ·omega
  ·omega
  ·exact lL
  ·exact (.r (.q .slnil))
  rintro n hn j _ _ ⟨k, aO, nO, cO, OU, rfl, rfl, rfl, hk, hnO, hU⟩;subst hnO;have hspO := hU.spot;have hal9 := wE (rs := rs) (cs := cs) (Nat.le_refl _) hk;refine rS (kO J (W5 J J (fun h5 => ?_) (fun h5 => ?_)))
  ·obtain ⟨q6, o6, z0, z1, z2, z3, z4, z5, ahc, hz, hat, j0, j1, j2, j3, j4, j5⟩ := hc.row6 (k := k) oM
   have hat2 := hat;obtain ⟨e0, e1, e2, e3, e4, e5, _⟩ := hat2;have := j0.lo; have := j0.hi;have := j1.lo; have := j1.hi;have := j2.lo; have := j2.hi;have := j3.lo; have := j3.hi;have := j4.lo; have := j4.hi;have := j5.lo; have := j5.hi;refine Q0 (rQ (Y0 J (Q1 (W0 (rQ (W1 (rS (kO J (bK (j := k) ahc rfl rfl (by first | rfl | omega) (by first | decide | omega) (kO J (cV J dE aM J (kO J (bG J J (fun b6 => (kZ J (Q6 J J .here rfl rfl rfl rfl (Q0 (rI (kM J J (kO J (Q2 J (kO J (Y1 J .here rfl (kO J (bO J J J (fun b7 => (kO J (Db hU .h2 J J .here oM (fun b99 z99 => (kM J J (Q0 (Z1 (W0 (rI ?_))))))))))))))))))))))))))))))))));refine kO J (Y3 J J oM (kM J J (Q0 (W0 ?_))));have hst : (mX rs cs rs.length (k + 1)) = (mX rs cs rs.length k) ++ [z0] := by rw [IX hz]; rfl
   exact ⟨rfl, _, _, _, (show cs.length - (k + 1) < cs.length - k from oM), lL, (.q (.cons _ (.cons _ (.q .slnil)))), ⟨k + 1, some ⟨b99, 0, none⟩, _, OPEN, [.row b99 3 true (ints ((mX rs cs rs.length k) ++ [z0]) ++ z99)], rfl, rfl, rfl, oM, (by rw [hst, List.length_append]; rfl), (by rw [hst]; exact .inr ⟨b99, z99, rfl, by rw [List.length_append]; rfl, rfl, rfl⟩)⟩⟩
  ·obtain rfl : k = cs.length := oM
   refine Q0 (rQ (U0 J (Y4 (Z2 (Z2 (Q3 (W0 (rS (kM J J (kO J (E7 hXs h1c hU rfl rfl oM (fun U8 hU8 => (Q0 (rS (kM J J (kO J (IQ hXc h1c hU8 rfl rfl (by rw [qC]; omega) (fun U7 hU7 => (kM J J (Q0 (V2 ?_)))))))))))))))))))));rw [show Go.Lib.compact (E5 (mX rs cs rs.length cs.length)) = C9 (mX rs cs rs.length cs.length) from rfl] at hU7 ⊢;rw [wD] at hU7 ⊢;exact fI J (.r (.cons _ .slnil)) ⟨aO, cO, U7, rfl, by rw [List.append_nil], hU7⟩
theorem uF (n : Nat) (d r al up : Int) (a1 a2 : Option Addr) (c1 c2 : Nat) (l1 l2 : List Int) (a3 a4 : Option Addr) (c3 c4 : Nat) (rs cs : List (List Int)) (s : St) (hs : Wf s) (hn : 5629499534213120 <= n) (hl1 : aI s a1 l1) (hl2 : aI s a2 l2) (hr : RowsE s 7 a3 rs) (hc : RowsE s 6 a4 cs) (hXs : kL Tryz.prog X 42 E5 none) (hXc : kL Tryz.prog X 43 E6 MA) (h1c : Tryz.prog.cellsOf 3 = 1) : bW Tryz.prog (cA cH) X (n + 6400) 12 [.agg ⟨[.int .i64 d, .int .i64 r, .slice a1 l1.length c1, .slice a2 l2.length c2, .int .i64 al, .int .i64 up, .slice a3 rs.length c3, .slice a4 cs.length c4]⟩] s (fun v A => (pL (fO ((1 <= d /\ d <= 99999) /\ (1 <= r /\ r <= 99999) /\ (0 <= al /\ al <= 100000) /\ (0 <= up /\ up <= 100000) /\ bA l1 l2 = true) l1 l2 rs cs) (iF (l1.length : Int) (l2.length : Int) rs (Sv.b6 (Sv.mk r al up l1 l2 rs cs))) ≠ 0 /\ v = .tuple #[.slice none 0 0, .int .i64 (pL (fO ((1 <= d /\ d <= 99999) /\ (1 <= r /\ r <= 99999) /\ (0 <= al /\ al <= 100000) /\ (0 <= up /\ up <= 100000) /\ bA l1 l2 = true) l1 l2 rs cs) (iF (l1.length : Int) (l2.length : Int) rs (Sv.b6 (Sv.mk r al up l1 l2 rs cs))))] /\ A = []) ∨ (pL (fO ((1 <= d /\ d <= 99999) /\ (1 <= r /\ r <= 99999) /\ (0 <= al /\ al <= 100000) /\ (0 <= up /\ up <= 100000) /\ bA l1 l2 = true) l1 l2 rs cs) (iF (l1.length : Int) (l2.length : Int) rs (Sv.b6 (Sv.mk r al up l1 l2 rs cs))) = 0 /\ ∃ a c U, v = .tuple #[.slice a (sU r rs cs).length c, .int .i64 0] /\ A = U /\ B8 3 a (sU r rs cs).length c (sU r rs cs) U)) := by
 refine enter Ll rfl hs ?_;unfold JN;have hlen1 := hl1.len;have hlen2 := hl2.len;have hlen3 := hr.len;have hlen4 := hc.len;refine rS (kO J (bI J J J (fun b1 => (kM J J (kM J J (Q0 (rQ (rS (kO J (V4 J dE .here rfl (kO J (aH J J (fun s1 h1 => vR _ _ _ _ _ _ _ _ _ _ _ _ _ _ _ _ _ s1 h1.wf oM (hl1.ext hs h1.2.1) (hl2.ext hs h1.2.1) (hr.ext hs h1.2.1) (hc.ext hs h1.2.1)) (kM J J (Q0 (rS (kM J J (kO J (V3 J J (fun h2 => ?_) (fun h2 => ?_)))))))))))))))))))
 ·refine Q0 (Y0 J (rS (kM J J (kM J J (kM J J (Q0 (V2 (W3 ?_))))))))
  exact fC J J (List.nil_sublist _) (.inl ⟨aM, rfl, rfl⟩)
 ·have hck : pL (fO ((1 <= d /\ d <= 99999) /\ (1 <= r /\ r <= 99999) /\ (0 <= al /\ al <= 100000) /\ (0 <= up /\ up <= 100000) /\ bA l1 l2 = true) l1 l2 rs cs) (iF (l1.length : Int) (l2.length : Int) rs (Sv.b6 (Sv.mk r al up l1 l2 rs cs))) = 0 := oM
  have hpt : fO ((1 <= d /\ d <= 99999) /\ (1 <= r /\ r <= 99999) /\ (0 <= al /\ al <= 100000) /\ (0 <= up /\ up <= 100000) /\ bA l1 l2 = true) l1 l2 rs cs = 0 := by
   refine Decidable.byContradiction (fun hp => ?_);rw [iD hp] at hck; exact hp hck
  obtain ⟨⟨hsd, hsr, hsa, hsu, hpl⟩, h60, h20, hrdb, hcpb⟩ := mA hpt;refine Q0 (U0 J (Q1 (W0 (rS (kO J (V4 J dE .here rfl (kO J (Q2 J (kO J (Q2 J (kO J (Y1 J .here rfl (kO J (bO J J J (fun b3 => (kO J (Z4 J J (fun s1 h1 => De _ _ _ _ _ _ _ _ _ _ _ _ _ _ _ _ _ s1 h1.wf oM (hl1.ext hs h1.2.1) (hl2.ext hs h1.2.1) (hr.ext hs h1.2.1) (hc.ext hs h1.2.1) hXs hXc h1c oM oM) (fun v1 A1 q1 => ?_))))))))))))))))));obtain ⟨aO, cO, OU, rfl, hA9, hU⟩ := q1;rw [hA9];have hspO := hU.spot;have hle9 : (C9 (wC rs cs)).length <= rs.length + cs.length := Nat.le_trans (On _) (by unfold wC; rw [List.length_append, List.length_map, List.length_map]; exact Nat.le_refl _);refine kZ J (aK J J (.app .h1) J (by simp [eqV, eqA, eqL, kindEq, aB, V5 hl1.spot, V5 hl2.spot, V5 hr.spot, V5 hc.spot]) (kO J (Db hU .here rfl rfl .here oM (fun b99 z99 => (kM J J (Q0 (rS (kM J J (kO J (E7 (U := [.row b99 3 true (ints (C9 (wC rs cs) ++ [r]) ++ z99)]) hXs h1c (.inr ⟨b99, z99, rfl, List.length_append, rfl, rfl⟩) J J (by rw [List.length_append]; show (_ + 1) * 8 <= _; omega) (fun U8 hU8 => (Q0 (rS (kM J J (kO J (IQ hXc h1c hU8 rfl rfl (by rw [qC]; rw [List.length_append]; show (_ + 1) * 8 <= _; omega) (fun U7 hU7 => (kM J J (kM J J (Q0 (V2 ?_)))))))))))))))))))));rw [show Go.Lib.compact (E5 (C9 (wC rs cs) ++ [r])) = C9 (C9 (wC rs cs) ++ [r]) from rfl, IV] at hU7 ⊢;exact fC J J (.r (.cons _ (.cons _ .slnil))) (.inr ⟨hck, _, _, U7, rfl, by rw [List.append_nil], hU7⟩)
theorem rF (n : Nat) (d r al up : Int) (a1 a2 : Option Addr) (c1 c2 : Nat) (l1 l2 : List Int) (a3 a4 : Option Addr) (c3 c4 : Nat) (rs cs : List (List Int)) (s : St) (hs : Wf s) (hn : 5629499534213120 <= n) (hl1 : aI s a1 l1) (hl2 : aI s a2 l2) (hr : RowsE s 7 a3 rs) (hc : RowsE s 6 a4 cs) : bW Tryz.prog (cA cH) X (n + 6400) 13 [.agg ⟨[.int .i64 d, .int .i64 r, .slice a1 l1.length c1, .slice a2 l2.length c2, .int .i64 al, .int .i64 up, .slice a3 rs.length c3, .slice a4 cs.length c4]⟩] s (fun v A => (pL (fO ((1 <= d /\ d <= 99999) /\ (1 <= r /\ r <= 99999) /\ (0 <= al /\ al <= 100000) /\ (0 <= up /\ up <= 100000) /\ bA l1 l2 = true) l1 l2 rs cs) (iF (l1.length : Int) (l2.length : Int) rs (Sv.b6 (Sv.mk r al up l1 l2 rs cs))) ≠ 0 /\ v = .tuple #[.slice none 0 0, .int .i64 (pL (fO ((1 <= d /\ d <= 99999) /\ (1 <= r /\ r <= 99999) /\ (0 <= al /\ al <= 100000) /\ (0 <= up /\ up <= 100000) /\ bA l1 l2 = true) l1 l2 rs cs) (iF (l1.length : Int) (l2.length : Int) rs (Sv.b6 (Sv.mk r al up l1 l2 rs cs))))] /\ A = []) ∨ (pL (fO ((1 <= d /\ d <= 99999) /\ (1 <= r /\ r <= 99999) /\ (0 <= al /\ al <= 100000) /\ (0 <= up /\ up <= 100000) /\ bA l1 l2 = true) l1 l2 rs cs) (iF (l1.length : Int) (l2.length : Int) rs (Sv.b6 (Sv.mk r al up l1 l2 rs cs))) = 0 /\ ∃ a c U, v = .tuple #[.slice a (sU r rs cs).length c, .int .i64 0] /\ A = U /\ B8 3 a (sU r rs cs).length c (sU r rs cs) U)) := by
 refine enter Lm rfl hs ?_;unfold JP;have hlen1 := hl1.len;have hlen2 := hl2.len;have hlen3 := hr.len;have hlen4 := hc.len;refine rS (kO J (bI J J J (fun b1 => (kM J J (kM J J (Q0 (rS (kO J (V4 J dE .here rfl (kO J (aH J J (fun s1 h1 => mU _ _ _ _ _ _ _ _ _ _ _ _ _ _ _ _ _ s1 h1.wf oM (hl1.ext hs h1.2.1) (hl2.ext hs h1.2.1) (hr.ext hs h1.2.1) (hc.ext hs h1.2.1)) (kM J J (Q0 (rQ (rS (kM J J (kO J (V3 J J (fun h2 => ?_) (fun h2 => ?_)))))))))))))))))))
 ·refine Q0 (Y0 J (rS (kM J J (kM J J (kM J J (Q0 (V2 (W3 ?_))))))))
  exact fC J J (List.nil_sublist _) (.inl ⟨aM, rfl, rfl⟩)
 ·have hck : pL (fO ((1 <= d /\ d <= 99999) /\ (1 <= r /\ r <= 99999) /\ (0 <= al /\ al <= 100000) /\ (0 <= up /\ up <= 100000) /\ bA l1 l2 = true) l1 l2 rs cs) (iF (l1.length : Int) (l2.length : Int) rs (Sv.b6 (Sv.mk r al up l1 l2 rs cs))) = 0 := oM
  have hpt : fO ((1 <= d /\ d <= 99999) /\ (1 <= r /\ r <= 99999) /\ (0 <= al /\ al <= 100000) /\ (0 <= up /\ up <= 100000) /\ bA l1 l2 = true) l1 l2 rs cs = 0 := by
   refine Decidable.byContradiction (fun hp => ?_);rw [iD hp] at hck; exact hp hck
  obtain ⟨⟨hsd, hsr, hsa, hsu, hpl⟩, h60, h20, hrdb, hcpb⟩ := mA hpt;refine Q0 (U0 J (Q1 (W0 (rS (kO J (V4 J dE .here rfl (kO J (Q2 J (kO J (Q2 J (kO J (Y1 J .here rfl (kO J (Z4 J J (fun s1 h1 => FP _ _ _ _ _ _ _ _ _ _ _ _ _ _ _ _ _ s1 h1.wf oM (hl1.ext hs h1.2.1) (hl2.ext hs h1.2.1) (hr.ext hs h1.2.1) (hc.ext hs h1.2.1) oM oM) (fun v1 A1 q1 => ?_)))))))))))))));obtain ⟨aO, cO, OU, rfl, hA9, hU, hal9⟩ := q1;rw [hA9];have hspO := hU.o.spot;have hla9 : (wC rs cs).length = rs.length + cs.length := by unfold wC; rw [List.length_append, List.length_map, List.length_map]
  refine kZ J (aK J J (.app .here) J (by simp [eqV, eqA, eqL, kindEq, aB, V5 hl1.spot, V5 hl2.spot, V5 hr.spot, V5 hc.spot]) (kO J (Z4 J J (fun s1 h1 => IY _ aO cO (cM [] (wC rs cs)) r s1 h1.wf oM (hU.o.rows sA h1 (sV (by rw [<- wD]; exact wF hr.fit hc.fit)) oM) (hU.ils sA h1) oM) (fun v1 A1 q1 => ?_))));rcases q1 with ⟨hpe, rfl, rfl⟩ | ⟨bP, rfl, rfl⟩
  ·rw [List.nil_append]
   refine kM J J (kM J J (Q0 (V2 ?_)));have hsa9 : sU r rs cs = cM [] (wC rs cs) := hpe;exact fC J J (.r (.cons _ .slnil)) (.inr ⟨hck, aO, cO, OU, by rw [hsa9], by rw [List.append_nil], by rw [hsa9]; exact hU.o⟩)
  ·rw [List.singleton_append]
   refine kM J J (kM J J (Q0 (V2 ?_)));exact fC J J (.q (sR (.cons _ .slnil))) (.inr ⟨hck, some ⟨bP, 0, none⟩, OPEN, [.row bP 3 true (ints (sU r rs cs))], rfl, rfl, .inr ⟨bP, [], rfl, rfl, rfl, by rw [List.append_nil]⟩⟩)
theorem MC (n : Nat) (d r al up : Int) (a1 a2 : Option Addr) (c1 c2 : Nat) (l1 l2 : List Int) (a3 a4 : Option Addr) (c3 c4 : Nat) (rs cs : List (List Int)) (s : St) (hs : Wf s) (hn : 3940649673949184 <= n) (hl1 : aI s a1 l1) (hl2 : aI s a2 l2) (hr : RowsE s 7 a3 rs) (hc : RowsE s 6 a4 cs) : bW Tryz.prog (cA cH) X (n + 6200) 8 [.agg ⟨[.int .i64 d, .int .i64 r, .slice a1 l1.length c1, .slice a2 l2.length c2, .int .i64 al, .int .i64 up, .slice a3 rs.length c3, .slice a4 cs.length c4]⟩] s (fun v A => (fO ((1 <= d /\ d <= 99999) /\ (1 <= r /\ r <= 99999) /\ (0 <= al /\ al <= 100000) /\ (0 <= up /\ up <= 100000) /\ bA l1 l2 = true) l1 l2 rs cs ≠ 0 /\ v = .tuple #[.slice none 0 0, .int .i64 (fO ((1 <= d /\ d <= 99999) /\ (1 <= r /\ r <= 99999) /\ (0 <= al /\ al <= 100000) /\ (0 <= up /\ up <= 100000) /\ bA l1 l2 = true) l1 l2 rs cs)] /\ A = []) ∨ (fO ((1 <= d /\ d <= 99999) /\ (1 <= r /\ r <= 99999) /\ (0 <= al /\ al <= 100000) /\ (0 <= up /\ up <= 100000) /\ bA l1 l2 = true) l1 l2 rs cs = 0 /\ ¬ iF (l1.length : Int) (l2.length : Int) rs (Sv.b6 (Sv.mk r al up l1 l2 rs cs)) /\ v = .tuple #[.slice none 0 0, .int .i64 2] /\ A = []) ∨ (fO ((1 <= d /\ d <= 99999) /\ (1 <= r /\ r <= 99999) /\ (0 <= al /\ al <= 100000) /\ (0 <= up /\ up <= 100000) /\ bA l1 l2 = true) l1 l2 rs cs = 0 /\ iF (l1.length : Int) (l2.length : Int) rs (Sv.b6 (Sv.mk r al up l1 l2 rs cs)) /\ ∃ aD cD U, v = .tuple #[.slice aD (dys rs).length cD, .int .i64 0] /\ A = U /\ rH 86 2 aD (dys rs).length cD (dys rs) U /\ Wd 2 (dys rs))) := by
 refine enter N1 rfl hs ?_;unfold Qb;have hlen1 := hl1.len;have hlen2 := hl2.len;have hlen3 := hr.len;have hlen4 := hc.len;refine rS (kO J (bI J J J (fun b1 => (kM J J (kM J J (Q0 (rS (kO J (V4 J dE .here rfl (kO J (Z4 J J (fun s1 h1 => tU _ _ _ _ _ _ _ _ _ _ _ _ _ _ _ _ _ s1 h1.wf oM (hl1.ext hs h1.2.1) (hl2.ext hs h1.2.1) (hr.ext hs h1.2.1) (hc.ext hs h1.2.1)) (fun v1 A1 q1 => ?_))))))))))));rcases q1 with ⟨hpn, rfl, rfl⟩ | ⟨hpt, hnf, rfl, rfl⟩ | ⟨hpt, hfit, bL, bs, DS, DR, rfl, rfl, hDR⟩
 ·refine kM J J (kO J (V1 J J (kO J (V1 J J (kM J J (kM J J (Q0 (rQ (rS (kM J J (kO J (V3 J J (fun h2 => ?_) (fun h2 => ?_)))))))))))))
  ·refine Q0 (Y0 J (rS (kM J J (kM J J (kM J J (Q0 (V2 (W3 ?_))))))))
   exact fC J J (List.nil_sublist _) (.inl ⟨aM, rfl, rfl⟩)
  ·exact absurd oM hpn
 ·refine kM J J (kO J (V1 J J (kO J (V1 J J (kM J J (kM J J (Q0 (rQ (rS (kM J J (kO J (V3 J J (fun _ => (Q0 (Y0 J (rS (kM J J (kM J J (kM J J (Q0 (V2 (W3 ?_)))))))))) (fun h => absurd h dE)))))))))))))
  exact fC J J (List.nil_sublist _) (.inr (.inl ⟨hpt, hnf, rfl, rfl⟩))
 ·refine kM J J (kO J (V1 J J (kO J (V1 J J (kM J J (kM J J (Q0 (rQ (rS (kM J J (kO J (V3 J J (fun h => absurd h dE) (fun _ => (Q0 (U0 J (Q1 (W0 (rS (kM J J (kO J (W4 J (kO J (Q2 J (kO J (Y1 J .h1 J (kM J J (kM J J (Q0 (V2 ?_)))))))))))))))))))))))))))))
  rcases hDR with ⟨rfl, rfl, rfl⟩ | ⟨hne, bd, rfl, rfl, hWD⟩
  ·exact fC J J (List.nil_sublist _) (.inr (.inr ⟨hpt, hfit, none, 0, [], rfl, rfl, .inl ⟨rfl, rfl, rfl, rfl, rfl⟩, Wd.nil⟩))
  ·exact fC J J (.cons _ (.cons _ (.r (.cons _ .slnil)))) (.inr (.inr ⟨hpt, hfit, some ⟨bd, 0, none⟩, OPEN, _, rfl, rfl, .inr ⟨bd, [], rfl, rfl, rfl, .inl ⟨rfl, EW hne⟩, by rw [List.append_nil, List.append_nil]⟩, hWD⟩))
theorem yG (n : Nat) (d r al up : Int) (a1 a2 : Option Addr) (c1 c2 : Nat) (l1 l2 : List Int) (a3 a4 : Option Addr) (c3 c4 : Nat) (rs cs : List (List Int)) (s : St) (hs : Wf s) (hn : 3940649673949184 <= n) (hl1 : aI s a1 l1) (hl2 : aI s a2 l2) (hr : RowsE s 7 a3 rs) (hc : RowsE s 6 a4 cs) : bW Tryz.prog (cA cH) X (n + 6200) 9 [.agg ⟨[.int .i64 d, .int .i64 r, .slice a1 l1.length c1, .slice a2 l2.length c2, .int .i64 al, .int .i64 up, .slice a3 rs.length c3, .slice a4 cs.length c4]⟩] s (fun v A => (fO ((1 <= d /\ d <= 99999) /\ (1 <= r /\ r <= 99999) /\ (0 <= al /\ al <= 100000) /\ (0 <= up /\ up <= 100000) /\ bA l1 l2 = true) l1 l2 rs cs ≠ 0 /\ v = .tuple #[.slice none 0 0, .int .i64 (fO ((1 <= d /\ d <= 99999) /\ (1 <= r /\ r <= 99999) /\ (0 <= al /\ al <= 100000) /\ (0 <= up /\ up <= 100000) /\ bA l1 l2 = true) l1 l2 rs cs)] /\ A = []) ∨ (fO ((1 <= d /\ d <= 99999) /\ (1 <= r /\ r <= 99999) /\ (0 <= al /\ al <= 100000) /\ (0 <= up /\ up <= 100000) /\ bA l1 l2 = true) l1 l2 rs cs = 0 /\ ¬ iF (l1.length : Int) (l2.length : Int) rs (Sv.b6 (Sv.mk r al up l1 l2 rs cs)) /\ v = .tuple #[.slice none 0 0, .int .i64 2] /\ A = []) ∨ (fO ((1 <= d /\ d <= 99999) /\ (1 <= r /\ r <= 99999) /\ (0 <= al /\ al <= 100000) /\ (0 <= up /\ up <= 100000) /\ bA l1 l2 = true) l1 l2 rs cs = 0 /\ iF (l1.length : Int) (l2.length : Int) rs (Sv.b6 (Sv.mk r al up l1 l2 rs cs)) /\ ∃ aD cD U, v = .tuple #[.slice aD (dys rs).length cD, .int .i64 0] /\ A = U /\ rH 86 2 aD (dys rs).length cD (dys rs) U /\ Wd 2 (dys rs))) := by
 refine enter N2 rfl hs ?_;unfold Qc;have hlen1 := hl1.len;have hlen2 := hl2.len;have hlen3 := hr.len;have hlen4 := hc.len;refine rS (kO J (bI J J J (fun b1 => (kM J J (kM J J (Q0 (rS (kO J (V4 J dE .here rfl (kO J (aH J J (fun s1 h1 => mU _ _ _ _ _ _ _ _ _ _ _ _ _ _ _ _ _ s1 h1.wf oM (hl1.ext hs h1.2.1) (hl2.ext hs h1.2.1) (hr.ext hs h1.2.1) (hc.ext hs h1.2.1)) (kM J J (Q0 (rQ (rS (kM J J (kO J (V3 J J (fun h2 => ?_) (fun h2 => ?_)))))))))))))))))))
 ·have h2x := h2
  refine Q0 (Y0 J (rS (kM J J (kM J J (kM J J (Q0 (V2 (W3 ?_))))))));by_cases hpt : fO ((1 <= d /\ d <= 99999) /\ (1 <= r /\ r <= 99999) /\ (0 <= al /\ al <= 100000) /\ (0 <= up /\ up <= 100000) /\ bA l1 l2 = true) l1 l2 rs cs = 0
  ·have hnf : ¬ iF (l1.length : Int) (l2.length : Int) rs (Sv.b6 (Sv.mk r al up l1 l2 rs cs)) := fun hf => h2x (oA hpt hf)
   exact fC J J (List.nil_sublist _) (.inr (.inl ⟨hpt, hnf, by rw [gU hpt hnf], rfl⟩))
  ·exact fC J J (List.nil_sublist _) (.inl ⟨hpt, by rw [iD hpt], rfl⟩)
 ·have hck : pL (fO ((1 <= d /\ d <= 99999) /\ (1 <= r /\ r <= 99999) /\ (0 <= al /\ al <= 100000) /\ (0 <= up /\ up <= 100000) /\ bA l1 l2 = true) l1 l2 rs cs) (iF (l1.length : Int) (l2.length : Int) rs (Sv.b6 (Sv.mk r al up l1 l2 rs cs))) = 0 := oM
  have hpt : fO ((1 <= d /\ d <= 99999) /\ (1 <= r /\ r <= 99999) /\ (0 <= al /\ al <= 100000) /\ (0 <= up /\ up <= 100000) /\ bA l1 l2 = true) l1 l2 rs cs = 0 := by
   refine Decidable.byContradiction (fun hp => ?_);rw [iD hp] at hck; exact hp hck
  obtain ⟨⟨hsd, hsr, hsa, hsu, hpl⟩, h60, h20, hrdb, hcpb⟩ := mA hpt;have hfit : iF (l1.length : Int) (l2.length : Int) rs (Sv.b6 (Sv.mk r al up l1 l2 rs cs)) := by
   refine Decidable.byContradiction (fun hf => ?_);rw [gU hpt hf] at hck; exact absurd hck dE
  refine Q0 (U0 J (Q1 (W0 (rS (kO J (Q2 J (kO J (Y1 J .here rfl (kO J (Z4 J J (fun s1 h1 => sS _ a3 c3 rs.length rs s1 h1.wf oM J (hr.ext hs h1.2.1) oM) (fun v1 A1 q1 => ?_)))))))))));obtain ⟨aT, cT, UT, rfl, hAT, hRT, hWT, hlT⟩ := q1;rw [hAT];refine kM J J (kM J J (Q0 (V2 ?_)));exact fC J J (.r (.cons _ .slnil)) (.inr (.inr ⟨hpt, hfit, aT, cT, UT, rfl, by rw [List.append_nil], hRT, hWT⟩))
theorem uG (n : Nat) (d r al up : Int) (a1 a2 : Option Addr) (c1 c2 : Nat) (l1 l2 : List Int) (x y : Int) (s : St) (hs : Wf s) (hn : 1970324836974592 <= n) (hl1 : aI s a1 l1) (hl2 : aI s a2 l2) : bW Tryz.prog (cA cH) X (n + 1800) 14 [.agg ⟨[.int .i64 d, .int .i64 r, .slice a1 l1.length c1, .slice a2 l2.length c2, .int .i64 al, .int .i64 up]⟩, .int .i64 x, .int .i64 y] s (fun v A => v = .tuple #[.int .i64 (if (1 <= d /\ d <= 99999) /\ (1 <= r /\ r <= 99999) /\ (0 <= al /\ al <= 100000) /\ (0 <= up /\ up <= 100000) /\ bA l1 l2 = true then (if ((0 <= x /\ x <= (l1.length : Int) - 1) /\ (0 <= y /\ y <= (l2.length : Int) - 1)) then 1 + x * (l2.length : Int) + y else 0) else 0), .int .i64 (if (1 <= d /\ d <= 99999) /\ (1 <= r /\ r <= 99999) /\ (0 <= al /\ al <= 100000) /\ (0 <= up /\ up <= 100000) /\ bA l1 l2 = true then (if ((0 <= x /\ x <= (l1.length : Int) - 1) /\ (0 <= y /\ y <= (l2.length : Int) - 1)) then 0 else 3) else 30)] /\ A = []) := by
 refine enter Ln rfl hs ?_;unfold JR;have hlen1 := hl1.len;have hlen2 := hl2.len;refine rS (kO J (bI J J J (fun b1 => (kM J J (kM J J (Q0 (rQ (rS (kO J (V4 J dE .here rfl (kO J (gL J J (fun s1 h1 => iY _ _ _ _ _ _ _ _ _ _ _ s1 h1.wf oM (hl1.ext hs h1.2.1) (hl2.ext hs h1.2.1)) (fun h2 => ?_) (fun h2 => ?_)))))))))))))
 ·have hsp := h2
  obtain ⟨hsd, hsr, hsa, hsu, hpl⟩ := hsp;have hsp : (1 <= d /\ d <= 99999) /\ (1 <= r /\ r <= 99999) /\ (0 <= al /\ al <= 100000) /\ (0 <= up /\ up <= 100000) /\ bA l1 l2 = true := ⟨hsd, hsr, hsa, hsu, hpl⟩;have hp1 := fJ hpl;have hm1 := hp1.hm;have hm2 : (l2.length : Int) <= 7 := yM hpl;refine kM J J (Q0 (rS (kM J J (kO J (V3 J J (fun h => absurd h dE) (fun _ => (Q0 (U0 J (Q1 (W0 (rQ (rS (kO J (V4 J dE .here rfl (kM J J (kM J J (kO J (bH J J (fun s1 h1 => MW _ _ _ _ _ _ _ _ _ _ _ _ _ s1 h1.wf oM (hl1.ext hs h1.2.1) (hl2.ext hs h1.2.1)) (fun h4 => ?_) (fun h4 => ?_)))))))))))))))))))
  ·refine kO J (U6 J (Q0 (U0 J (Q1 (W0 (rS (kO J (V4 J dE .here rfl (kM J J (kM J J (kO J (aH J J (fun s1 h1 => iB _ _ _ _ _ _ _ _ _ _ _ _ _ s1 h1.wf oM (hl1.ext hs h1.2.1) (hl2.ext hs h1.2.1) oM oM oM) (kM J J (kM J J (Q0 (V2 (tR J J ⟨?_, rfl⟩)))))))))))))))))
   rw [if_pos hsp, if_pos hsp, if_pos oM, if_pos oM]
  ·refine kO J (U6 J (Q0 (Y0 J (rS (kM J J (kM J J (Q0 (V2 (W3 (tR J J ⟨?_, rfl⟩))))))))))
   rw [if_pos hsp, if_pos hsp, if_neg oM, if_neg oM]
 ·have hsp := h2
  refine kM J J (Q0 (rS (kM J J (kO J (V3 J J (fun _ => (Q0 (Y0 J (rS (kM J J (kM J J (kM J J (Q0 (V2 (W3 (tR J J ⟨?_, rfl⟩))))))))))) (fun h => absurd h dE))))));rw [if_neg hsp, if_neg hsp]
theorem rG (n : Nat) (d r al up : Int) (a1 a2 : Option Addr) (c1 c2 : Nat) (l1 l2 : List Int) (x y : Int) (s : St) (hs : Wf s) (hn : 1970324836974592 <= n) (hl1 : aI s a1 l1) (hl2 : aI s a2 l2) : bW Tryz.prog (cA cH) X (n + 1800) 15 [.agg ⟨[.int .i64 d, .int .i64 r, .slice a1 l1.length c1, .slice a2 l2.length c2, .int .i64 al, .int .i64 up]⟩, .int .i64 x, .int .i64 y] s (fun v A => v = .tuple #[.int .i64 (if (1 <= d /\ d <= 99999) /\ (1 <= r /\ r <= 99999) /\ (0 <= al /\ al <= 100000) /\ (0 <= up /\ up <= 100000) /\ bA l1 l2 = true then (if ((0 <= x /\ x <= (l1.length : Int) - 1) /\ (0 <= y /\ y <= (l2.length : Int) - 1)) then 1 + x * (l2.length : Int) + y else 0) else 0), .int .i64 (if (1 <= d /\ d <= 99999) /\ (1 <= r /\ r <= 99999) /\ (0 <= al /\ al <= 100000) /\ (0 <= up /\ up <= 100000) /\ bA l1 l2 = true then (if ((0 <= x /\ x <= (l1.length : Int) - 1) /\ (0 <= y /\ y <= (l2.length : Int) - 1)) then 0 else 3) else 30)] /\ A = []) := by
 refine enter Lo rfl hs ?_;unfold JT;have hlen1 := hl1.len;have hlen2 := hl2.len;refine rS (kO J (bI J J J (fun b1 => (kM J J (kM J J (Q0 (rQ (rS (kO J (V4 J dE .here rfl (kO J (gL J J (fun s1 h1 => gJ _ _ _ _ _ _ _ _ _ _ _ s1 h1.wf oM (hl1.ext hs h1.2.1) (hl2.ext hs h1.2.1)) (fun h2 => ?_) (fun h2 => ?_)))))))))))))
 ·have hsp := h2
  obtain ⟨hsd, hsr, hsa, hsu, hpl⟩ := hsp;have hsp : (1 <= d /\ d <= 99999) /\ (1 <= r /\ r <= 99999) /\ (0 <= al /\ al <= 100000) /\ (0 <= up /\ up <= 100000) /\ bA l1 l2 = true := ⟨hsd, hsr, hsa, hsu, hpl⟩;have hp1 := fJ hpl;have hm1 := hp1.hm;have hm2 : (l2.length : Int) <= 7 := yM hpl;refine kO J (V3 J J (fun h => absurd h dE) (fun _ => (Q0 (U0 J (Q1 (W0 (rQ (rS (kM J J (kO J (Q2 J (kO J (Y1 J .here rfl (kO J (aJ J hl1.spot (kO J (bX J J oM (kO J (bH J J (fun s1 h1 => qW _ _ _ _ s1 h1.wf) (fun h4 => ?_) (fun h4 => ?_))))))))))))))))))))
  ·refine kO J (U6 J (kM J J (kG J J (U2 J (kG J J (Q2 J (kG J J (Y1 J .here rfl (kG J J (aJ J hl2.spot (kG J J (bX J J oM (kG J J (bH J J (fun s1 h1 => qW _ _ _ _ s1 h1.wf) (fun h5 => ?_) (fun h5 => ?_)))))))))))))))
   ·refine kG J J (U6 J (kO J (U1 J J J (Q0 (U0 J (Q1 (W0 (rS (kO J (V4 J dE .here rfl (kM J J (kM J J (kO J (aH J J (fun s1 h1 => dP _ _ _ _ _ _ _ _ _ _ _ _ _ s1 h1.wf oM (hl1.ext hs h1.2.1) (hl2.ext hs h1.2.1) oM oM oM) (kM J J (kM J J (Q0 (V2 (tR J J ⟨?_, rfl⟩)))))))))))))))))))
    rw [if_pos hsp, if_pos hsp, if_pos oM, if_pos oM]
   ·refine kG J J (U6 J (kO J (U1 J J J (Q0 (Y0 J (rS (kM J J (kM J J (Q0 (V2 (W3 (tR J J ⟨?_, rfl⟩))))))))))))
    rw [if_pos hsp, if_pos hsp, if_neg oM, if_neg oM]
  ·refine kO J (U6 J (kM J J (V0 J J (V0 J J (V0 J J (V0 J J (V0 J J (V0 J J (V0 J J (kO J (W2 J J J (Q0 (Y0 J (rS (kM J J (kM J J (Q0 (V2 (W3 (tR J J ⟨?_, rfl⟩))))))))))))))))))))
   rw [if_pos hsp, if_pos hsp, if_neg oM, if_neg oM]
 ·have hsp := h2
  refine kO J (V3 J J (fun _ => (Q0 (Y0 J (rS (kM J J (kM J J (Q0 (V2 (W3 (tR J J ⟨?_, rfl⟩)))))))))) (fun h => absurd h dE));rw [if_neg hsp, if_neg hsp]
theorem pP (n : Nat) (a1 a2 : Option Addr) (c1 c2 : Nat) (M : List (List Int)) (s : St) (hs : Wf s) (hn : 281474976710656 <= n) (hA : RowsE s 2 a1 M) (hB : RowsE s 2 a2 M) : bW Tryz.prog (cA cH) X (n + 400) 16 [.slice a1 M.length c1, .slice a2 M.length c2] s (fun v A => v = .bool true /\ A = []) := by
 refine enter Lp rfl hs ?_;unfold JV;have hlen := hA.len;refine rS (kM J J (Q0 (rS (kM J J (kO J (aJ J (by first | exact hA.spot | exact hB.spot) (kM J J (kO J (aJ J (by first | exact hA.spot | exact hB.spot) (kO J (bS J J (fun h1 => ?_) (fun h1 => ?_))))))))))))
 ·refine kM J J (Q0 (rQ (rS (kM J J (Q0 (W1 (U4 (fun j e A => ∃ (k : Nat), e = [(0, .slice a1 M.length c1), (1, .slice a2 M.length c2), (5, .bool true), (6, .int .i64 (k : Int))] /\ A = [] /\ j = M.length - k /\ k <= M.length) 200 0 281474976710656 ?_ (j := _) (env2 := _) (A2 := _) ?_ ?_ ?_ ?_ ⟨0, rfl, rfl, rfl, Nat.zero_le _⟩)))))))
  rotate_left
  ·omega
  ·omega
  ·exact lL
  ·exact .slnil
  rintro n hn j _ _ ⟨k, rfl, rfl, rfl, hk⟩;refine rQ (rS (kM J J (kM J J (kO J (aJ J (by first | exact hA.spot | exact hB.spot) (kO J (W5 J J (fun h2 => ?_) (fun h2 => ?_))))))))
  ·obtain ⟨q1, o1, u0, u1, ahA, hx1, hat1, i10, i11⟩ := hA.row2 (k := k) oM
   obtain ⟨q2, o2, w0, w1, ahB, hx2, hat2, i20, i21⟩ := hB.row2 (k := k) oM;have huw := hx1.symm.trans hx2;simp only [Option.some.injEq, List.cons.injEq, and_true] at huw;obtain ⟨rfl, rfl⟩ := huw;refine kM J J (kG J J (U2 J (kO J (W2 J J J (Q0 (Y0 J (Q1 (W0 (rQ (W1 (rI (kM J J (kM J J (kO J (bK (j := k) ahA rfl rfl (by first | rfl | omega) (by first | decide | omega) (kO J (cV J dE aM J (kM J J (kM J J (kO J (bK (j := k) ahB rfl rfl (by first | rfl | omega) (by first | decide | omega) (kO J (cV J dE aM J (kO J (BL J J ⟨Me _ _ _ _, rfl⟩ (fun h3 => ?_) (fun h3 => ?_))))))))))))))))))))))))))
   ·refine kM J J (Q0 (Z1 (W0 (rI (kM J J (kO J (Y3 J J oM (kM J J (Q0 (W0 ?_))))))))))
    exact ⟨rfl, _, _, _, (show M.length - (k + 1) < M.length - k from oM), lL, .slnil, ⟨k + 1, rfl, rfl, rfl, oM⟩⟩
   ·exact absurd rfl (of_decide_eq_false h3)
  ·refine kM J J (V0 J J (kO J (U1 J J J (Q0 (U0 J (Y4 (Z2 (Z2 (Q3 (W0 (rS (kM J J (kM J J (Q0 (V2 ?_)))))))))))))))
   exact aV J ⟨rfl, rfl⟩
 ·exact absurd rfl h1
end
theorem IZ {P : Program} {C : Nat -> (CF -> Bool) -> Bool} {Y : FuncId -> List Value -> St -> (Value -> St -> Bool) -> Bool} {g : Nat} (n : Nat) (s : St) (hs : Wf s) : bW P C (II (nU g) Y) n g [] s (fun v A => v = .bool true /\ A = []) := by
 intro k hk;refine IK ?_;show (nU g g [] s k || Y g [] s k) = true;have h1 : nU g g [] s k = true := by
  unfold nU;rw [hk _ s ⟨[], fY.start hs, rfl, rfl⟩, show Nat.beq g g = true from by rw [Nat.beq_eq]]; rfl
 rw [h1]; rfl
theorem Cf {P : Program} {Y Z : FuncId -> List Value -> St -> (Value -> St -> Bool) -> Bool} {g : Nat} {T : List Int -> List Int} {V : Option (List Int -> Nat)} (h : kL P Y g T V) : kL P (II Z Y) g T V := fun vs s k hp => by
 show (Z g vs s k || Y g vs s k) = true;rw [h vs s k hp, Bool.or_true]
theorem FQ {P : Program} {g : Nat} {T : List Int -> List Int} {V : Option (List Int -> Nat)} : kL P (uD P g T V) g T V := fun vs s k h => @decide_eq_true _ (Classical.propDecidable _) ⟨rfl, h⟩
theorem FR : Tryz.prog.cellsOf 3 = 1 := kR
theorem Cg {r : Int} {rs cs : List (List Int)} (hr : I64 r) (h : ∀ q ∈ rs, ∀ x ∈ q, -9223372036854775808 <= x /\ x < 9223372036854775808) (h2 : ∀ q ∈ cs, ∀ x ∈ q, -9223372036854775808 <= x /\ x < 9223372036854775808) : ∀ z ∈ sU r rs cs, -9223372036854775808 <= z /\ z < 9223372036854775808 := fun z hz => by
 rcases pO.1 hz with q | q
 ·rw [q]; exact hr
 ·exact sV (by rw [<- wD]; exact wF h h2) z q
theorem I0 {r : Int} {rs cs : List (List Int)} : (sU r rs cs).length <= rs.length + cs.length + 1 := by
 have h1 := Ca (l := cM [] (wC rs cs)) (x := r);have h2 := yF (xs := wC rs cs);have h3 : (wC rs cs).length = rs.length + cs.length := by unfold wC; rw [List.length_append, List.length_map, List.length_map]
 unfold sU; omega
section
set_option maxHeartbeats 4000000 in
set_option maxRecDepth 100000 in
theorem A6 (n : Nat) (aS aQ aC aP : Option Addr) (cS cQ cC cP : Nat) (lS : List Int) (qs ts : List (List Int)) (ps : List Int) (g0 g1 g2 : Int) (x y : Int) (s : St) (hs : Wf s) (hn : 16888498602639360 <= n) (hS : aI s aS lS) (hQ : RowsE s 5 aQ qs) (hT : RowsE s 4 aC ts) (hP : aI s aP ps) (hg0 : I64 g0) (hg1 : I64 g1) (hg2 : I64 g2) : bW Tryz.prog (cA cH) (II (nU 6) (II (uD Tryz.prog 42 E5 none) (uD Tryz.prog 43 E6 MA))) (n + 12000) 3 [.agg ⟨[.slice aS lS.length cS, .slice aQ qs.length cQ, .slice aC ts.length cC, .slice aP ps.length cP, .int .i64 g0, .int .i64 g1, .int .i64 g2]⟩, .agg ⟨[.int .i64 x, .int .i64 y]⟩] s (fun v A => v = .bool true /\ A = []) := by
 refine enter NZ rfl hs ?_;unfold MR;have hlen1 := hS.len;have hlen2 := hQ.len;have hlen3 := hT.len;have hlen4 := hP.len;have hXs : kL Tryz.prog (II (nU 6) (II (uD Tryz.prog 42 E5 none) (uD Tryz.prog 43 E6 MA))) 42 E5 none := Cf (IO FQ);have hXc : kL Tryz.prog (II (nU 6) (II (uD Tryz.prog 42 E5 none) (uD Tryz.prog 43 E6 MA))) 43 E6 MA := Cf IN;have h1c := FR;refine rS (kO J (bI J J J (fun b1 => (kO J (bI J J J (fun b2 => (kM J J (Q0 (rS (kO J (aH J J (fun s1 h1 => IZ _ s1 h1.wf) (kM J J (Q0 (rS (kO J (V4 J dE .h1 J (kO J (Z4 J J (fun s1 h1 => ID _ _ _ _ _ _ _ _ _ lS qs ts ps g0 g1 g2 s1 h1.wf oM (hS.ext hs h1.2.1) (hQ.ext hs h1.2.1) (hT.ext hs h1.2.1) (hP.ext hs h1.2.1) hg0 hg1 hg2) (fun v1 A1 q1 => ?_)))))))))))))))))));obtain ⟨bm1, bm2, d, r, al, up, l1, l2, aF, cF, RU, rs, aD, cD, CU, cs, rfl, hA0, hsf, hU, hV, hWv, hWc, hr15, hc5⟩ := q1;rw [hA0, List.append_assoc, List.append_assoc, List.cons_append, List.cons_append, List.nil_append];have hf1 := hsf.2.2.2.2.1;have hf2 := hsf.2.2.2.2.2.1;have hq1 := hsf.2.2.2.2.2.2.2.1;have hq2 := hsf.2.2.2.2.2.2.2.2.2;have hdl := AW (rs := rs);have hsl9 := I0 (r := r) (rs := rs) (cs := cs);have hspm1 : ∀ b, (some ⟨bm1, 0, none⟩ : Option Addr) = some b -> b.spot = none := fun b hb => by cases hb; rfl
 have hspm2 : ∀ b, (some ⟨bm2, 0, none⟩ : Option Addr) = some b -> b.spot = none := fun b hb => by cases hb; rfl
 have hspR := hU.spot;have hspC := hV.spot;refine kO J (bG J J (fun b3 => (kZ J (Q6 J J .here rfl rfl rfl rfl (Q0 (rS (kO J (V4 J dE .here rfl (kO J (Z4 J J (fun s1 h1 => MC _ d r al up _ _ _ _ l1 l2 _ _ _ _ rs cs s1 h1.wf oM (aI.own (h1.own (.next (.app (.app .h1)))) hf1 oM) (aI.own (h1.own (.next (.app (.app .here)))) hf2 oM) (hU.rows (.cons _ sA) h1 hWv oM) (hV.rows (.cons _ (sR sA)) h1 hWc oM)) (fun v1 A1 q1 => ?_)))))))))));rcases q1 with ⟨hpn, rfl, rfl⟩ | ⟨hpt, hnf, rfl, rfl⟩ | ⟨hpt, hfit, aT1, cT1, UT1, rfl, hA1, hRT1, hWT1⟩
 ·refine kM J J (kO J (V1 J J (kO J (V1 J J (kM J J (kM J J (Q0 (rS (kO J (V4 J dE .here rfl (kO J (Z4 J J (fun s1 h1 => yG _ d r al up _ _ _ _ l1 l2 _ _ _ _ rs cs s1 h1.wf oM (aI.own (h1.own (.next (.app (.app .h1)))) hf1 oM) (aI.own (h1.own (.next (.app (.app .here)))) hf2 oM) (hU.rows (.cons _ sA) h1 hWv oM) (hV.rows (.cons _ (sR sA)) h1 hWc oM)) (fun v1 A1 q1 => ?_)))))))))))))
  rcases q1 with ⟨hpn2, rfl, rfl⟩ | ⟨hpt2, hnf2, rfl, rfl⟩ | ⟨hpt2, hfit2, aT2, cT2, UT2, rfl, hA2, hRT2, hWT2⟩
  ·refine kM J J (kO J (V1 J J (kO J (V1 J J (kM J J (kM J J (Q0 (rS (kO J (V4 J dE .here rfl (kO J (Z4 J J (fun s1 h1 => xX _ d r al up _ _ _ _ l1 l2 _ _ _ _ rs cs s1 h1.wf oM (aI.own (h1.own (.next (.app (.app .h1)))) hf1 oM) (aI.own (h1.own (.next (.app (.app .here)))) hf2 oM) (hU.rows (.cons _ sA) h1 hWv oM) (hV.rows (.cons _ (sR sA)) h1 hWc oM)) (fun v1 A1 q1 => ?_)))))))))))))
   rcases q1 with ⟨hpn3, rfl, rfl⟩ | ⟨hpt3, hnf3, rfl, rfl⟩ | ⟨hpt3, hfit3, bY3, rfl, rfl⟩
   ·refine kM J J (kO J (V1 J J (kO J (V1 J J (kO J (bG J J (fun b4 => (kZ J (Q6 J J .here rfl rfl rfl rfl (kM J J (Q0 (rS (kO J (V4 J dE .h1 J (kO J (Z4 J J (fun s1 h1 => tX _ d r al up _ _ _ _ l1 l2 _ _ _ _ rs cs s1 h1.wf oM (aI.own (h1.own (.next (.next (.app (.app .h1))))) hf1 oM) (aI.own (h1.own (.next (.next (.app (.app .here))))) hf2 oM) (hU.rows (.cons _ (.cons _ sA)) h1 hWv oM) (hV.rows (.cons _ (.cons _ (sR sA))) h1 hWc oM)) (fun v1 A1 q1 => ?_)))))))))))))))))
    rcases q1 with ⟨hpn4, rfl, rfl⟩ | ⟨hpt4, hnf4, rfl, rfl⟩ | ⟨hpt4, hfit4, bY4, rfl, rfl⟩
    ·refine kM J J (kO J (V1 J J (kO J (V1 J J (kO J (bG J J (fun b5 => (kZ J (Q6 J J .here rfl rfl rfl rfl (kM J J (Q0 (rS (kO J (V4 J dE .h2 J (kO J (Z4 J J (fun s1 h1 => uF _ d r al up _ _ _ _ l1 l2 _ _ _ _ rs cs s1 h1.wf oM (aI.own (h1.own (.next (.next (.next (.app (.app .h1)))))) hf1 oM) (aI.own (h1.own (.next (.next (.next (.app (.app .here)))))) hf2 oM) (hU.rows (.cons _ (.cons _ (.cons _ sA))) h1 hWv oM) (hV.rows (.cons _ (.cons _ (.cons _ (sR sA)))) h1 hWc oM) hXs hXc h1c) (fun v1 A1 q1 => ?_)))))))))))))))))
     rcases q1 with ⟨hcs5, rfl, rfl⟩ | ⟨hcs5, aS5, cS5, US5, rfl, hA5, hS5⟩
     ·refine kM J J (kO J (V1 J J (kO J (V1 J J (kM J J (kM J J (Q0 (rS (kO J (V4 J dE .h2 J (kO J (Z4 J J (fun s1 h1 => rF _ d r al up _ _ _ _ l1 l2 _ _ _ _ rs cs s1 h1.wf oM (aI.own (h1.own (.next (.next (.next (.app (.app .h1)))))) hf1 oM) (aI.own (h1.own (.next (.next (.next (.app (.app .here)))))) hf2 oM) (hU.rows (.cons _ (.cons _ (.cons _ sA))) h1 hWv oM) (hV.rows (.cons _ (.cons _ (.cons _ (sR sA)))) h1 hWc oM)) (fun v1 A1 q1 => ?_)))))))))))))
      rcases q1 with ⟨hcs6, rfl, rfl⟩ | ⟨hcs6, aS6, cS6, US6, rfl, hA6, hS6⟩
      ·refine kM J J (kO J (V1 J J (kO J (V1 J J (kM J J (kM J J (Q0 (rS (kO J (Q2 J (kO J (V4 J dE .h2 J (kO J (bQ (j := 0) J J dE dE (kO J (Y1 J (.next (.next (.next (.app (.app .h2))))) J (kO J (bQ (j := 1) J J dE dE (kO J (Y1 J (.next (.next (.next (.app (.app .h2))))) J (kO J (aH J J (fun s1 h1 => uG _ d r al up _ _ _ _ l1 l2 x y s1 h1.wf oM (aI.own (h1.own (.next (.next (.next (.app (.app .h1)))))) hf1 oM) (aI.own (h1.own (.next (.next (.next (.app (.app .here)))))) hf2 oM)) (kM J J (kO J (V1 J J (kO J (V1 J J (kM J J (kM J J (Q0 (rS (kO J (Q2 J (kO J (V4 J dE .h2 J (kO J (bQ (j := 0) J J dE dE ?_)))))))))))))))))))))))))))))))))))))
       refine kO J (Y1 J (.next (.next (.next (.app (.app .h2))))) J (kO J (bQ (j := 1) J J dE dE (kO J (Y1 J (.next (.next (.next (.app (.app .h2))))) J (kO J (aH J J (fun s1 h1 => rG _ d r al up _ _ _ _ l1 l2 x y s1 h1.wf oM (aI.own (h1.own (.next (.next (.next (.app (.app .h1)))))) hf1 oM) (aI.own (h1.own (.next (.next (.next (.app (.app .here)))))) hf2 oM)) (kM J J (kO J (V1 J J (kO J (V1 J J (kM J J (kM J J (Q0 (rS (kM J J (kM J J (kO J (aH J J (fun s1 h1 => pP _ none none 0 0 [] s1 h1.wf oM RowsE.nil RowsE.nil) (kM J J (Q0 (rS (kO J (V4 J dE .h1 J (kO J (V4 J dE .here rfl (kO J (aH J J (fun s1 h1 => oB _ _ _ _ _ _ [] s1 h1.wf oM RowsE.nil RowsE.nil) (kM J J (Q0 (rS (kM J J ?_)))))))))))))))))))))))))))))))));refine kM J J (kO J (aH J J (fun s1 h1 => rD _ none none 0 0 [] s1 h1.wf oM aI.nil aI.nil) (kM J J (Q0 (rS (kM J J (kM J J (kG J J (Q2 J (kG J J (V4 J dE .h2 J (kG J J (Q2 J (kG J J (V4 J dE .h2 J (kG J J (aH J J (fun s1 h1 => iY _ d r al up _ _ _ _ l1 l2 s1 h1.wf oM (aI.own (h1.own (.next (.next (.next (.app (.app .h1)))))) hf1 oM) (aI.own (h1.own (.next (.next (.next (.app (.app .here)))))) hf2 oM)) (kZ J (eP J J dE .h2 J (by simp [eqL, eqV, eqA, kindEq, aB, V5 hspm1, V5 hspm2, V5 hspR, V5 hspC]) (kG J J (aH J J (fun s1 h1 => gJ _ d r al up _ _ _ _ l1 l2 s1 h1.wf oM (aI.own (h1.own (.next (.next (.next (.app (.app .h1)))))) hf1 oM) (aI.own (h1.own (.next (.next (.next (.app (.app .here)))))) hf2 oM)) (kG J J (bS J J (fun h6 => ?_) (fun h6 => ?_))))))))))))))))))))))))
       ·refine kO J (W2 J J J (kM J J (kG J J (V4 J dE .h2 J (kG J J (V4 J dE .h2 J (kG J J (aH J J (fun s1 h1 => vR _ d r al up _ _ _ _ l1 l2 _ _ _ _ rs cs s1 h1.wf oM (aI.own (h1.own (.next (.next (.next (.app (.app .h1)))))) hf1 oM) (aI.own (h1.own (.next (.next (.next (.app (.app .here)))))) hf2 oM) (hU.rows (.cons _ (.cons _ (.cons _ sA))) h1 hWv oM) (hV.rows (.cons _ (.cons _ (.cons _ (sR sA)))) h1 hWc oM)) (kZ J (eP J J dE .h2 J (by simp [eqL, eqV, eqA, kindEq, aB, V5 hspm1, V5 hspm2, V5 hspR, V5 hspC]) (kG J J (aH J J (fun s1 h1 => mU _ d r al up _ _ _ _ l1 l2 _ _ _ _ rs cs s1 h1.wf oM (aI.own (h1.own (.next (.next (.next (.app (.app .h1)))))) hf1 oM) (aI.own (h1.own (.next (.next (.next (.app (.app .here)))))) hf2 oM) (hU.rows (.cons _ (.cons _ (.cons _ sA))) h1 hWv oM) (hV.rows (.cons _ (.cons _ (.cons _ (sR sA)))) h1 hWc oM)) (kG J J (bS J J (fun h7 => ?_) (fun h7 => ?_)))))))))))))))
        ·refine kO J (W2 J J J (kM J J (kG J J (U2 J (kO J (W2 J J J (kM J J (kG J J (U2 J (kG J J (U2 J (kG J J (bS J J (fun h8 => ?_) (fun h8 => ?_))))))))))))))
         ·refine kO J (W2 J J J (kM J J (kG J J (U2 J (kO J (W2 J J J (kM J J (kG J J (U2 J (kG J J (U2 J (kG J J (bS J J (fun h9 => ?_) (fun h9 => ?_))))))))))))))
          ·refine kO J (W2 J J J (kM J J (kG J J (U2 J (kO J (W2 J J J (kM J J (kG J J (U2 J (kG J J (U2 J (kG J J (bS J J (fun h10 => ?_) (fun h10 => ?_))))))))))))))
           ·refine kO J (W2 J J J (kM J J (kG J J (U2 J (kG J J (U2 J (kG J J (bS J J (fun h11 => ?_) (fun h11 => ?_)))))))))
            ·refine kO J (W2 J J J (kM J J (kG J J (U2 J (kG J J (U2 J (kG J J (bS J J (fun h12 => ?_) (fun h12 => ?_)))))))))
             ·refine kO J (W2 J J J (kM J J (Q0 (V2 ?_))))
              exact aV J ⟨rfl, rfl⟩
             ·exact absurd rfl h12
            ·exact absurd rfl h11
           ·exact absurd rfl h10
          ·exact absurd rfl h9
         ·exact absurd rfl h8
        ·exact absurd rfl h7
       ·exact absurd rfl h6
      ·exact absurd hcs6 (by rw [iD hpn]; exact hpn)
     ·exact absurd hcs5 (by rw [iD hpn]; exact hpn)
    ·exact absurd hpt4 hpn
    ·exact absurd hpt4 hpn
   ·exact absurd hpt3 hpn
   ·exact absurd hpt3 hpn
  ·exact absurd hpt2 hpn
  ·exact absurd hpt2 hpn
 ·refine kM J J (kO J (V1 J J (kO J (V1 J J (kM J J (kM J J (Q0 (rS (kO J (V4 J dE .here rfl (kO J (Z4 J J (fun s1 h1 => yG _ d r al up _ _ _ _ l1 l2 _ _ _ _ rs cs s1 h1.wf oM (aI.own (h1.own (.next (.app (.app .h1)))) hf1 oM) (aI.own (h1.own (.next (.app (.app .here)))) hf2 oM) (hU.rows (.cons _ sA) h1 hWv oM) (hV.rows (.cons _ (sR sA)) h1 hWc oM)) (fun v1 A1 q1 => ?_)))))))))))))
  rcases q1 with ⟨hpn2, rfl, rfl⟩ | ⟨hpt2, hnf2, rfl, rfl⟩ | ⟨hpt2, hfit2, aT2, cT2, UT2, rfl, hA2, hRT2, hWT2⟩
  ·first | exact absurd hpt hpn2 | exact absurd hfit2 hnf
  ·refine kM J J (kO J (V1 J J (kO J (V1 J J (kM J J (kM J J (Q0 (rS (kO J (V4 J dE .here rfl (kO J (Z4 J J (fun s1 h1 => xX _ d r al up _ _ _ _ l1 l2 _ _ _ _ rs cs s1 h1.wf oM (aI.own (h1.own (.next (.app (.app .h1)))) hf1 oM) (aI.own (h1.own (.next (.app (.app .here)))) hf2 oM) (hU.rows (.cons _ sA) h1 hWv oM) (hV.rows (.cons _ (sR sA)) h1 hWc oM)) (fun v1 A1 q1 => ?_)))))))))))))
   rcases q1 with ⟨hpn3, rfl, rfl⟩ | ⟨hpt3, hnf3, rfl, rfl⟩ | ⟨hpt3, hfit3, bY3, rfl, rfl⟩
   ·first | exact absurd hpt hpn3 | exact absurd hfit3 hnf
   ·refine kM J J (kO J (V1 J J (kO J (V1 J J (kO J (bG J J (fun b13 => (kZ J (Q6 J J .here rfl rfl rfl rfl (kM J J (Q0 (rS (kO J (V4 J dE .h1 J (kO J (Z4 J J (fun s1 h1 => tX _ d r al up _ _ _ _ l1 l2 _ _ _ _ rs cs s1 h1.wf oM (aI.own (h1.own (.next (.next (.app (.app .h1))))) hf1 oM) (aI.own (h1.own (.next (.next (.app (.app .here))))) hf2 oM) (hU.rows (.cons _ (.cons _ sA)) h1 hWv oM) (hV.rows (.cons _ (.cons _ (sR sA))) h1 hWc oM)) (fun v1 A1 q1 => ?_)))))))))))))))))
    rcases q1 with ⟨hpn4, rfl, rfl⟩ | ⟨hpt4, hnf4, rfl, rfl⟩ | ⟨hpt4, hfit4, bY4, rfl, rfl⟩
    ·first | exact absurd hpt hpn4 | exact absurd hfit4 hnf
    ·refine kM J J (kO J (V1 J J (kO J (V1 J J (kO J (bG J J (fun b14 => (kZ J (Q6 J J .here rfl rfl rfl rfl (kM J J (Q0 (rS (kO J (V4 J dE .h2 J (kO J (Z4 J J (fun s1 h1 => uF _ d r al up _ _ _ _ l1 l2 _ _ _ _ rs cs s1 h1.wf oM (aI.own (h1.own (.next (.next (.next (.app (.app .h1)))))) hf1 oM) (aI.own (h1.own (.next (.next (.next (.app (.app .here)))))) hf2 oM) (hU.rows (.cons _ (.cons _ (.cons _ sA))) h1 hWv oM) (hV.rows (.cons _ (.cons _ (.cons _ (sR sA)))) h1 hWc oM) hXs hXc h1c) (fun v1 A1 q1 => ?_)))))))))))))))))
     rcases q1 with ⟨hcs5, rfl, rfl⟩ | ⟨hcs5, aS5, cS5, US5, rfl, hA5, hS5⟩
     ·refine kM J J (kO J (V1 J J (kO J (V1 J J (kM J J (kM J J (Q0 (rS (kO J (V4 J dE .h2 J (kO J (Z4 J J (fun s1 h1 => rF _ d r al up _ _ _ _ l1 l2 _ _ _ _ rs cs s1 h1.wf oM (aI.own (h1.own (.next (.next (.next (.app (.app .h1)))))) hf1 oM) (aI.own (h1.own (.next (.next (.next (.app (.app .here)))))) hf2 oM) (hU.rows (.cons _ (.cons _ (.cons _ sA))) h1 hWv oM) (hV.rows (.cons _ (.cons _ (.cons _ (sR sA)))) h1 hWc oM)) (fun v1 A1 q1 => ?_)))))))))))))
      rcases q1 with ⟨hcs6, rfl, rfl⟩ | ⟨hcs6, aS6, cS6, US6, rfl, hA6, hS6⟩
      ·refine kM J J (kO J (V1 J J (kO J (V1 J J (kM J J (kM J J (Q0 (rS (kO J (Q2 J (kO J (V4 J dE .h2 J (kO J (bQ (j := 0) J J dE dE (kO J (Y1 J (.next (.next (.next (.app (.app .h2))))) J (kO J (bQ (j := 1) J J dE dE (kO J (Y1 J (.next (.next (.next (.app (.app .h2))))) J (kO J (aH J J (fun s1 h1 => uG _ d r al up _ _ _ _ l1 l2 x y s1 h1.wf oM (aI.own (h1.own (.next (.next (.next (.app (.app .h1)))))) hf1 oM) (aI.own (h1.own (.next (.next (.next (.app (.app .here)))))) hf2 oM)) (kM J J (kO J (V1 J J (kO J (V1 J J (kM J J (kM J J (Q0 (rS (kO J (Q2 J (kO J (V4 J dE .h2 J (kO J (bQ (j := 0) J J dE dE ?_)))))))))))))))))))))))))))))))))))))
       refine kO J (Y1 J (.next (.next (.next (.app (.app .h2))))) J (kO J (bQ (j := 1) J J dE dE (kO J (Y1 J (.next (.next (.next (.app (.app .h2))))) J (kO J (aH J J (fun s1 h1 => rG _ d r al up _ _ _ _ l1 l2 x y s1 h1.wf oM (aI.own (h1.own (.next (.next (.next (.app (.app .h1)))))) hf1 oM) (aI.own (h1.own (.next (.next (.next (.app (.app .here)))))) hf2 oM)) (kM J J (kO J (V1 J J (kO J (V1 J J (kM J J (kM J J (Q0 (rS (kM J J (kM J J (kO J (aH J J (fun s1 h1 => pP _ none none 0 0 [] s1 h1.wf oM RowsE.nil RowsE.nil) (kM J J (Q0 (rS (kO J (V4 J dE .h1 J (kO J (V4 J dE .here rfl (kO J (aH J J (fun s1 h1 => oB _ _ _ _ _ _ [] s1 h1.wf oM RowsE.nil RowsE.nil) (kM J J (Q0 (rS (kM J J ?_)))))))))))))))))))))))))))))))));refine kM J J (kO J (aH J J (fun s1 h1 => rD _ none none 0 0 [] s1 h1.wf oM aI.nil aI.nil) (kM J J (Q0 (rS (kM J J (kM J J (kG J J (Q2 J (kG J J (V4 J dE .h2 J (kG J J (Q2 J (kG J J (V4 J dE .h2 J (kG J J (aH J J (fun s1 h1 => iY _ d r al up _ _ _ _ l1 l2 s1 h1.wf oM (aI.own (h1.own (.next (.next (.next (.app (.app .h1)))))) hf1 oM) (aI.own (h1.own (.next (.next (.next (.app (.app .here)))))) hf2 oM)) (kZ J (eP J J dE .h2 J (by simp [eqL, eqV, eqA, kindEq, aB, V5 hspm1, V5 hspm2, V5 hspR, V5 hspC]) (kG J J (aH J J (fun s1 h1 => gJ _ d r al up _ _ _ _ l1 l2 s1 h1.wf oM (aI.own (h1.own (.next (.next (.next (.app (.app .h1)))))) hf1 oM) (aI.own (h1.own (.next (.next (.next (.app (.app .here)))))) hf2 oM)) (kG J J (bS J J (fun h15 => ?_) (fun h15 => ?_))))))))))))))))))))))))
       ·refine kO J (W2 J J J (kM J J (kG J J (V4 J dE .h2 J (kG J J (V4 J dE .h2 J (kG J J (aH J J (fun s1 h1 => vR _ d r al up _ _ _ _ l1 l2 _ _ _ _ rs cs s1 h1.wf oM (aI.own (h1.own (.next (.next (.next (.app (.app .h1)))))) hf1 oM) (aI.own (h1.own (.next (.next (.next (.app (.app .here)))))) hf2 oM) (hU.rows (.cons _ (.cons _ (.cons _ sA))) h1 hWv oM) (hV.rows (.cons _ (.cons _ (.cons _ (sR sA)))) h1 hWc oM)) (kZ J (eP J J dE .h2 J (by simp [eqL, eqV, eqA, kindEq, aB, V5 hspm1, V5 hspm2, V5 hspR, V5 hspC]) (kG J J (aH J J (fun s1 h1 => mU _ d r al up _ _ _ _ l1 l2 _ _ _ _ rs cs s1 h1.wf oM (aI.own (h1.own (.next (.next (.next (.app (.app .h1)))))) hf1 oM) (aI.own (h1.own (.next (.next (.next (.app (.app .here)))))) hf2 oM) (hU.rows (.cons _ (.cons _ (.cons _ sA))) h1 hWv oM) (hV.rows (.cons _ (.cons _ (.cons _ (sR sA)))) h1 hWc oM)) (kG J J (bS J J (fun h16 => ?_) (fun h16 => ?_)))))))))))))))
        ·refine kO J (W2 J J J (kM J J (kG J J (U2 J (kO J (W2 J J J (kM J J (kG J J (U2 J (kG J J (U2 J (kG J J (bS J J (fun _ => (kO J (W2 J J J (kM J J (kG J J (U2 J (kO J (W2 J J J (kM J J (kG J J (U2 J (kG J J (U2 J (kG J J (bS J J (fun _ => (kO J (W2 J J J (kM J J (kG J J (U2 J (kO J (W2 J J J (kM J J (kG J J (U2 J (kG J J (U2 J (kG J J (bS J J (fun h19 => ?_) (fun h19 => ?_)))))))))))))))) (fun h => absurd h dE)))))))))))))))) (fun h => absurd h dE))))))))))))))
         ·refine kO J (W2 J J J (kM J J (kG J J (U2 J (kG J J (U2 J (kG J J (bS J J (fun h20 => ?_) (fun h20 => ?_)))))))))
          ·refine kO J (W2 J J J (kM J J (kG J J (U2 J (kG J J (U2 J (kG J J (bS J J (fun h21 => ?_) (fun h21 => ?_)))))))))
           ·refine kO J (W2 J J J (kM J J (Q0 (V2 ?_))))
            exact aV J ⟨rfl, rfl⟩
           ·exact absurd rfl h21
          ·exact absurd rfl h20
         ·exact absurd rfl h19
        ·exact absurd rfl h16
       ·exact absurd rfl h15
      ·exact absurd hcs6 (by rw [gU hpt hnf]; decide)
     ·exact absurd hcs5 (by rw [gU hpt hnf]; decide)
    ·first | exact absurd hpt hpn4 | exact absurd hfit4 hnf
   ·first | exact absurd hpt hpn3 | exact absurd hfit3 hnf
  ·first | exact absurd hpt hpn2 | exact absurd hfit2 hnf
 ·rw [hA1]
  refine kM J J (kO J (V1 J J (kO J (V1 J J (kM J J (kM J J (Q0 (rS ?_))))))));obtain ⟨⟨hsd, hsr, hsa, hsu, hpl⟩, h60, h20, hrdb, hcpb⟩ := mA hpt;have hp1 := fJ hpl;have hp2 := iX hpl;have h21 := hp1.h2;have hmn : l2.length * l1.length <= 81 := Nat.le_trans (Nat.mul_le_mul hq2 hq1) dE;have hl6 := Ie (r := r) (al := al) (up := up) (l1 := l1) (l2 := l2) (rs := rs) (cs := cs) h60 h20 hmn (show (dys rs).length <= 60 from oM);refine kO J (V4 J dE (.app .here) J (kO J (Z4 J J (fun s1 h1 => yG _ d r al up _ _ _ _ l1 l2 _ _ _ _ rs cs s1 h1.wf oM (aI.own (h1.own (.app (.next (.app (.app .h1))))) hf1 oM) (aI.own (h1.own (.app (.next (.app (.app .here))))) hf2 oM) (hU.rows (sR (.cons _ sA)) h1 hWv oM) (hV.rows (sR (.cons _ (sR sA))) h1 hWc oM)) (fun v1 A1 q1 => ?_))));rcases q1 with ⟨hpn2, rfl, rfl⟩ | ⟨hpt2, hnf2, rfl, rfl⟩ | ⟨hpt2, hfit2, aT2, cT2, UT2, rfl, hA2, hRT2, hWT2⟩
  ·first | exact absurd hpt hpn2 | exact absurd hfit hnf2
  ·first | exact absurd hpt hpn2 | exact absurd hfit hnf2
  ·rw [hA2]
   refine kM J J (kO J (V1 J J (kO J (V1 J J (kM J J (kM J J (Q0 (rS (kO J (V4 J dE (.app (.app .here)) J (kO J (Z4 J J (fun s1 h1 => xX _ d r al up _ _ _ _ l1 l2 _ _ _ _ rs cs s1 h1.wf oM (aI.own (h1.own (.app (.app (.next (.app (.app .h1)))))) hf1 oM) (aI.own (h1.own (.app (.app (.next (.app (.app .here)))))) hf2 oM) (hU.rows (sR (sR (.cons _ sA))) h1 hWv oM) (hV.rows (sR (sR (.cons _ (sR sA)))) h1 hWc oM)) (fun v1 A1 q1 => ?_)))))))))))));rcases q1 with ⟨hpn3, rfl, rfl⟩ | ⟨hpt3, hnf3, rfl, rfl⟩ | ⟨hpt3, hfit3, bY3, rfl, rfl⟩
   ·first | exact absurd hpt hpn3 | exact absurd hfit hnf3
   ·first | exact absurd hpt hpn3 | exact absurd hfit hnf3
   ·rw [List.singleton_append]
    refine kM J J (kO J (V1 J J (kO J (V1 J J (kO J (bG J J (fun b22 => (kZ J (Q6 J J .here rfl rfl rfl rfl (kM J J (Q0 (rS (kO J (V4 J dE (.next (.next (.app (.app .here)))) J (kO J (Z4 J J (fun s1 h1 => tX _ d r al up _ _ _ _ l1 l2 _ _ _ _ rs cs s1 h1.wf oM (aI.own (h1.own (.next (.next (.app (.app (.next (.app (.app .h1)))))))) hf1 oM) (aI.own (h1.own (.next (.next (.app (.app (.next (.app (.app .here)))))))) hf2 oM) (hU.rows (.cons _ (.cons _ (sR (sR (.cons _ sA))))) h1 hWv oM) (hV.rows (.cons _ (.cons _ (sR (sR (.cons _ (sR sA)))))) h1 hWc oM)) (fun v1 A1 q1 => ?_)))))))))))))))));rcases q1 with ⟨hpn4, rfl, rfl⟩ | ⟨hpt4, hnf4, rfl, rfl⟩ | ⟨hpt4, hfit4, bY4, rfl, rfl⟩
    ·first | exact absurd hpt hpn4 | exact absurd hfit hnf4
    ·first | exact absurd hpt hpn4 | exact absurd hfit hnf4
    ·rw [List.singleton_append]
     refine kM J J (kO J (V1 J J (kO J (V1 J J (kO J (bG J J (fun b23 => (kZ J (Q6 J J .here rfl rfl rfl rfl (kM J J (Q0 (rS (kO J (V4 J dE (.next (.next (.next (.next (.app (.app .here)))))) J (kO J (Z4 J J (fun s1 h1 => uF _ d r al up _ _ _ _ l1 l2 _ _ _ _ rs cs s1 h1.wf oM (aI.own (h1.own (.next (.next (.next (.next (.app (.app (.next (.app (.app .h1)))))))))) hf1 oM) (aI.own (h1.own (.next (.next (.next (.next (.app (.app (.next (.app (.app .here)))))))))) hf2 oM) (hU.rows (.cons _ (.cons _ (.cons _ (.cons _ (sR (sR (.cons _ sA))))))) h1 hWv oM) (hV.rows (.cons _ (.cons _ (.cons _ (.cons _ (sR (sR (.cons _ (sR sA)))))))) h1 hWc oM) hXs hXc h1c) (fun v1 A1 q1 => ?_)))))))))))))))));rcases q1 with ⟨hcs5, rfl, rfl⟩ | ⟨hcs5, aS5, cS5, US5, rfl, hA5, hS5⟩
     ·exact absurd (oA hpt hfit) hcs5
     ·rw [hA5]
      refine kM J J (kO J (V1 J J (kO J (V1 J J (kM J J (kM J J (Q0 (rS (kO J (V4 J dE (.app (.next (.next (.next (.next (.app (.app .here))))))) J (kO J (Z4 J J (fun s1 h1 => rF _ d r al up _ _ _ _ l1 l2 _ _ _ _ rs cs s1 h1.wf oM (aI.own (h1.own (.app (.next (.next (.next (.next (.app (.app (.next (.app (.app .h1))))))))))) hf1 oM) (aI.own (h1.own (.app (.next (.next (.next (.next (.app (.app (.next (.app (.app .here))))))))))) hf2 oM) (hU.rows (sR (.cons _ (.cons _ (.cons _ (.cons _ (sR (sR (.cons _ sA)))))))) h1 hWv oM) (hV.rows (sR (.cons _ (.cons _ (.cons _ (.cons _ (sR (sR (.cons _ (sR sA))))))))) h1 hWc oM)) (fun v1 A1 q1 => ?_)))))))))))));rcases q1 with ⟨hcs6, rfl, rfl⟩ | ⟨hcs6, aS6, cS6, US6, rfl, hA6, hS6⟩
      ·exact absurd (oA hpt hfit) hcs6
      ·rw [hA6]
       refine kM J J (kO J (V1 J J (kO J (V1 J J (kM J J (kM J J (Q0 (rS (kO J (Q2 J (kO J (V4 J dE (.app (.app (.next (.next (.next (.next (.app (.app .here)))))))) J (kO J (bQ (j := 0) J J dE dE (kO J (Y1 J (.app (.app (.next (.next (.next (.next (.app (.app (.next (.app (.app .h2))))))))))) J (kO J (bQ (j := 1) J J dE dE (kO J (Y1 J (.app (.app (.next (.next (.next (.next (.app (.app (.next (.app (.app .h2))))))))))) J (kO J (aH J J (fun s1 h1 => uG _ d r al up _ _ _ _ l1 l2 x y s1 h1.wf oM (aI.own (h1.own (.app (.app (.next (.next (.next (.next (.app (.app (.next (.app (.app .h1)))))))))))) hf1 oM) (aI.own (h1.own (.app (.app (.next (.next (.next (.next (.app (.app (.next (.app (.app .here)))))))))))) hf2 oM)) (kM J J (kO J (V1 J J (kO J (V1 J J (kM J J (kM J J (Q0 (rS (kO J (Q2 J (kO J (V4 J dE (.app (.app (.next (.next (.next (.next (.app (.app .here)))))))) J (kO J (bQ (j := 0) J J dE dE ?_)))))))))))))))))))))))))))))))))))))
       refine kO J (Y1 J (.app (.app (.next (.next (.next (.next (.app (.app (.next (.app (.app .h2))))))))))) J (kO J (bQ (j := 1) J J dE dE (kO J (Y1 J (.app (.app (.next (.next (.next (.next (.app (.app (.next (.app (.app .h2))))))))))) J (kO J (aH J J (fun s1 h1 => rG _ d r al up _ _ _ _ l1 l2 x y s1 h1.wf oM (aI.own (h1.own (.app (.app (.next (.next (.next (.next (.app (.app (.next (.app (.app .h1)))))))))))) hf1 oM) (aI.own (h1.own (.app (.app (.next (.next (.next (.next (.app (.app (.next (.app (.app .here)))))))))))) hf2 oM)) (kM J J (kO J (V1 J J (kO J (V1 J J (kM J J (kM J J (Q0 (rS (kM J J (kM J J (kO J (aH J J (fun s1 h1 => pP _ _ _ _ _ (dys rs) s1 h1.wf oM (hRT1.rows (sR (sR (.cons _ (.cons _ (.cons _ (.cons _ (sR sA))))))) h1 hWT1 oM) (hRT2.rows (sR (sR (.cons _ (.cons _ (.cons _ (.cons _ sA)))))) h1 hWT2 oM)) (kM J J (Q0 (rS (kO J (V4 J dE (.app (.app .h2)) J (kO J (V4 J dE (.app (.app .here)) J (kO J (aH J J (fun s1 h1 => oB _ _ _ _ _ _ _ s1 h1.wf oM (RowsE.ownF (h1.own (.app (.app .h3))) (EG hsr hsa hsu hpl h60 h20 hrdb hcpb (hU.rows (sR (sR (.cons _ (.cons _ (.cons _ (.cons _ (sR (sR (.cons _ sA))))))))) h1 hWv oM) (hV.rows (sR (sR (.cons _ (.cons _ (.cons _ (.cons _ (sR (sR (.cons _ (sR sA)))))))))) h1 hWc oM) oM) oM) (RowsE.ownF (h1.own (.app (.app .h1))) (EG hsr hsa hsu hpl h60 h20 hrdb hcpb (hU.rows (sR (sR (.cons _ (.cons _ (.cons _ (.cons _ (sR (sR (.cons _ sA))))))))) h1 hWv oM) (hV.rows (sR (sR (.cons _ (.cons _ (.cons _ (.cons _ (sR (sR (.cons _ (sR sA)))))))))) h1 hWc oM) oM) oM)) (kM J J (Q0 (rS (kM J J ?_)))))))))))))))))))))))))))))))))
       refine kM J J (kO J (aH J J (fun s1 h1 => rD _ _ _ _ _ (sU r rs cs) s1 h1.wf oM (hS5.rows (sR sA) h1 (Cg hsf.2.1 hWv.fit hWc.fit) oM) (hS6.rows sA h1 (Cg hsf.2.1 hWv.fit hWc.fit) oM)) (kM J J (Q0 (rS (kM J J (kM J J (kG J J (Q2 J (kG J J (V4 J dE (.app (.app (.next (.next (.next (.next (.app (.app .here)))))))) J (kG J J (Q2 J (kG J J (V4 J dE (.app (.app (.next (.next (.next (.next (.app (.app .here)))))))) J (kG J J (aH J J (fun s1 h1 => iY _ d r al up _ _ _ _ l1 l2 s1 h1.wf oM (aI.own (h1.own (.app (.app (.next (.next (.next (.next (.app (.app (.next (.app (.app .h1)))))))))))) hf1 oM) (aI.own (h1.own (.app (.app (.next (.next (.next (.next (.app (.app (.next (.app (.app .here)))))))))))) hf2 oM)) (kZ J (eP J J dE (.app (.app (.next (.next (.next (.next (.app (.app .here)))))))) J (by simp [eqL, eqV, eqA, kindEq, aB, V5 hspm1, V5 hspm2, V5 hspR, V5 hspC]) (kG J J (aH J J (fun s1 h1 => gJ _ d r al up _ _ _ _ l1 l2 s1 h1.wf oM (aI.own (h1.own (.app (.app (.next (.next (.next (.next (.app (.app (.next (.app (.app .h1)))))))))))) hf1 oM) (aI.own (h1.own (.app (.app (.next (.next (.next (.next (.app (.app (.next (.app (.app .here)))))))))))) hf2 oM)) (kG J J (bS J J (fun h24 => ?_) (fun h24 => ?_))))))))))))))))))))))))
       ·refine kO J (W2 J J J (kM J J (kG J J (V4 J dE (.app (.app (.next (.next (.next (.next (.app (.app .here)))))))) J (kG J J (V4 J dE (.app (.app (.next (.next (.next (.next (.app (.app .here)))))))) J (kG J J (aH J J (fun s1 h1 => vR _ d r al up _ _ _ _ l1 l2 _ _ _ _ rs cs s1 h1.wf oM (aI.own (h1.own (.app (.app (.next (.next (.next (.next (.app (.app (.next (.app (.app .h1)))))))))))) hf1 oM) (aI.own (h1.own (.app (.app (.next (.next (.next (.next (.app (.app (.next (.app (.app .here)))))))))))) hf2 oM) (hU.rows (sR (sR (.cons _ (.cons _ (.cons _ (.cons _ (sR (sR (.cons _ sA))))))))) h1 hWv oM) (hV.rows (sR (sR (.cons _ (.cons _ (.cons _ (.cons _ (sR (sR (.cons _ (sR sA)))))))))) h1 hWc oM)) (kZ J (eP J J dE (.app (.app (.next (.next (.next (.next (.app (.app .here)))))))) J (by simp [eqL, eqV, eqA, kindEq, aB, V5 hspm1, V5 hspm2, V5 hspR, V5 hspC]) (kG J J (aH J J (fun s1 h1 => mU _ d r al up _ _ _ _ l1 l2 _ _ _ _ rs cs s1 h1.wf oM (aI.own (h1.own (.app (.app (.next (.next (.next (.next (.app (.app (.next (.app (.app .h1)))))))))))) hf1 oM) (aI.own (h1.own (.app (.app (.next (.next (.next (.next (.app (.app (.next (.app (.app .here)))))))))))) hf2 oM) (hU.rows (sR (sR (.cons _ (.cons _ (.cons _ (.cons _ (sR (sR (.cons _ sA))))))))) h1 hWv oM) (hV.rows (sR (sR (.cons _ (.cons _ (.cons _ (.cons _ (sR (sR (.cons _ (sR sA)))))))))) h1 hWc oM)) (kG J J (bS J J (fun h25 => ?_) (fun h25 => ?_)))))))))))))))
        ·refine kO J (W2 J J J (kM J J (kG J J (U2 J (kO J (W2 J J J (kM J J (kG J J (U2 J (kG J J (U2 J (kG J J (bS J J (fun _ => (kO J (W2 J J J (kM J J (kG J J (U2 J (kO J (W2 J J J (kM J J (kG J J (U2 J (kG J J (U2 J (kG J J (bS J J (fun _ => (kO J (W2 J J J (kM J J (kG J J (U2 J (kO J (W2 J J J (kM J J (kG J J (U2 J (kG J J (U2 J (kG J J (bS J J (fun _ => ?_) (fun h => absurd h dE)))))))))))))))) (fun h => absurd h dE)))))))))))))))) (fun h => absurd h dE))))))))))))))
         refine kO J (W2 J J J (kM J J (kG J J (U2 J (kG J J (U2 J (kG J J (bS J J (fun h29 => ?_) (fun h29 => ?_)))))))))
         ·refine kO J (W2 J J J (kM J J (kG J J (U2 J (kG J J (U2 J (kG J J (bS J J (fun h30 => ?_) (fun h30 => ?_)))))))))
          ·refine kO J (W2 J J J (kM J J (Q0 (V2 ?_))))
           exact aV J ⟨rfl, rfl⟩
          ·exact absurd rfl h30
         ·exact absurd rfl h29
        ·exact absurd rfl h25
       ·exact absurd rfl h24
end
end Ev
end Go.Proofs.YtjkdkpckjgaplaaGreat
namespace Go.Proofs.YtjkdkpckjgaplaaGreat.Ev
open Go Go.RowKit Go.ChangeShapes Go.WideShapes Go.ChangeAt Go.Joins
set_option linter.unusedVariables false
noncomputable section
theorem Fa {s : St} {a : Option Addr} {rs : List (List Int)} (h : RowsE s 1 a rs) : aI s a (rs.map fun r => r.getD 0 0) := by
 have hr : ∀ r ∈ rs, r = [r.getD 0 0] := fun r hr => by
  have := h.width r hr
  match r, this with
  | [z], _ => rfl
 refine ⟨h.spot, fun hn => h.addr (by rintro rfl; exact hn rfl), fun b o ha => ?_, fun x hx => ?_, by rw [List.length_map]; exact h.len⟩
 ·have key : ∀ (l : List (List Int)) (k : Nat), (∀ i r, l[i]? = some r -> oR s b (o + (k + i) * 1) (r.map (.int .i64))) -> (∀ r ∈ l, r = [r.getD 0 0]) -> oR s b (o + k) (ints (l.map fun r => r.getD 0 0)) := by
   intro l
   induction l with
   | nil => intro k _ _; exact trivial
   | cons r l ih =>
    intro k h1 h2;have q := h1 0 r rfl;rw [h2 r sM] at q;refine ⟨?_, ?_⟩
    ·have := q.1; simpa using this
    ·have := ih (k + 1) (fun i r' hr' => by have := h1 (i + 1) r' (by simpa using hr'); rwa [show k + (i + 1) = k + 1 + i by omega] at this) (fun r' hr' => h2 r' (by simp [hr']))
     rwa [show o + (k + 1) = o + k + 1 by omega] at this
  have := key rs 0 (fun i r hr' => by rw [Nat.zero_add]; exact h.cells b o ha i r hr') hr;simpa using this
 ·obtain ⟨r, h1, rfl⟩ := List.mem_map.1 hx
  have h2 := h.fit r h1;rw [hr r h1] at h2 ⊢;exact h2 _ sM
end
end Go.Proofs.YtjkdkpckjgaplaaGreat.Ev
namespace Go.Proofs.YtjkdkpckjgaplaaGreat.Ev
open Go Go.RowKit Go.ChangeShapes Go.WideShapes Go.ChangeAt Go.Joins
set_option linter.unusedVariables false
noncomputable section
set_option maxRecDepth 100000 in
theorem I1 {H : Type} {enc : TypeId × Value -> H} {W : World} : pI H Tryz.prog enc W 127 5 := by
 intro base fuel sp held cs x h;obtain ⟨xs, m, _, _, hl, hxl, hxi⟩ := DataW.trod_array Tryz.underlying127 h;have e3 : Tryz.prog.cellsOf 127 = 5 := kR
 have e4 : Tryz.prog.cellsOf 3 = 1 := kR
 rw [e3] at hl
 match cs, hl with
 | [c0, c1, c2, c3, c4], _ =>
  have g0 := hxi 0 oM;rw [e4] at g0;have g1 := hxi 1 oM;rw [e4] at g1;have g2 := hxi 2 oM;rw [e4] at g2;have g3 := hxi 3 oM;rw [e4] at g3;have g4 := hxi 4 oM;rw [e4] at g4
  match xs, hxl with
  | [y0, y1, y2, y3, y4], _ =>
   obtain ⟨z0, q0, _, w0⟩ := DataW.trod_int Tryz.underlying3 (show DataW.trod enc Tryz.prog W base sp held m 3 [c0] = some y0 from g0);obtain ⟨z1, q1, _, w1⟩ := DataW.trod_int Tryz.underlying3 (show DataW.trod enc Tryz.prog W base sp held m 3 [c1] = some y1 from g1);obtain ⟨z2, q2, _, w2⟩ := DataW.trod_int Tryz.underlying3 (show DataW.trod enc Tryz.prog W base sp held m 3 [c2] = some y2 from g2);obtain ⟨z3, q3, _, w3⟩ := DataW.trod_int Tryz.underlying3 (show DataW.trod enc Tryz.prog W base sp held m 3 [c3] = some y3 from g3);obtain ⟨z4, q4, _, w4⟩ := DataW.trod_int Tryz.underlying3 (show DataW.trod enc Tryz.prog W base sp held m 3 [c4] = some y4 from g4);simp at q0 q1 q2 q3 q4;subst q0; subst q1; subst q2; subst q3; subst q4;exact ⟨[z0, z1, z2, z3, z4], rfl, rfl, fun z hz => by simp at hz; rcases hz with rfl | rfl | rfl | rfl | rfl <;> first | exact kJ w0 | exact kJ w1 | exact kJ w2 | exact kJ w3 | exact kJ w4⟩
set_option maxRecDepth 100000 in
theorem I3 {H : Type} {enc : TypeId × Value -> H} {W : World} : pI H Tryz.prog enc W 128 4 := by
 intro base fuel sp held cs x h;obtain ⟨xs, m, _, _, hl, hxl, hxi⟩ := DataW.trod_array Tryz.underlying128 h;have e3 : Tryz.prog.cellsOf 128 = 4 := kR
 have e4 : Tryz.prog.cellsOf 3 = 1 := kR
 rw [e3] at hl
 match cs, hl with
 | [c0, c1, c2, c3], _ =>
  have g0 := hxi 0 oM;rw [e4] at g0;have g1 := hxi 1 oM;rw [e4] at g1;have g2 := hxi 2 oM;rw [e4] at g2;have g3 := hxi 3 oM;rw [e4] at g3
  match xs, hxl with
  | [y0, y1, y2, y3], _ =>
   obtain ⟨z0, q0, _, w0⟩ := DataW.trod_int Tryz.underlying3 (show DataW.trod enc Tryz.prog W base sp held m 3 [c0] = some y0 from g0);obtain ⟨z1, q1, _, w1⟩ := DataW.trod_int Tryz.underlying3 (show DataW.trod enc Tryz.prog W base sp held m 3 [c1] = some y1 from g1);obtain ⟨z2, q2, _, w2⟩ := DataW.trod_int Tryz.underlying3 (show DataW.trod enc Tryz.prog W base sp held m 3 [c2] = some y2 from g2);obtain ⟨z3, q3, _, w3⟩ := DataW.trod_int Tryz.underlying3 (show DataW.trod enc Tryz.prog W base sp held m 3 [c3] = some y3 from g3);simp at q0 q1 q2 q3;subst q0; subst q1; subst q2; subst q3;exact ⟨[z0, z1, z2, z3], rfl, rfl, fun z hz => by simp at hz; rcases hz with rfl | rfl | rfl | rfl <;> first | exact kJ w0 | exact kJ w1 | exact kJ w2 | exact kJ w3⟩
set_option maxRecDepth 100000 in
theorem MD {H : Type} {enc : TypeId × Value -> H} {W : World} : pI H Tryz.prog enc W 28 2 := by
 intro base fuel sp held cs x h;obtain ⟨xs, m, _, _, hl, hxl, hxi⟩ := DataW.trod_array Tryz.underlying28 h;have e3 : Tryz.prog.cellsOf 28 = 2 := kR
 have e4 : Tryz.prog.cellsOf 3 = 1 := kR
 rw [e3] at hl
 match cs, hl with
 | [c0, c1], _ =>
  have g0 := hxi 0 oM;rw [e4] at g0;have g1 := hxi 1 oM;rw [e4] at g1
  match xs, hxl with
  | [y0, y1], _ =>
   obtain ⟨z0, q0, _, w0⟩ := DataW.trod_int Tryz.underlying3 (show DataW.trod enc Tryz.prog W base sp held m 3 [c0] = some y0 from g0);obtain ⟨z1, q1, _, w1⟩ := DataW.trod_int Tryz.underlying3 (show DataW.trod enc Tryz.prog W base sp held m 3 [c1] = some y1 from g1);simp at q0 q1;subst q0; subst q1;exact ⟨[z0, z1], rfl, rfl, fun z hz => by simp at hz; rcases hz with rfl | rfl <;> first | exact kJ w0 | exact kJ w1⟩
set_option maxRecDepth 100000 in
theorem FS {H : Type} {enc : TypeId × Value -> H} {W : World} {r : Reach} {b0 : Nat} {v : Value} {d : DataW H} {p : List MemPlace} (hv : Value.okWide Tryz.prog W r b0 28 v) (h : DataW.Trod enc Tryz.prog W 0 (fun _ => true) true 28 v d p) : ∃ z0 z1, v = .agg #[.int .i64 z0, .int .i64 z1] := by
 obtain ⟨fuel, hf⟩ := h;simp only [Value.okWide, Tryz.underlying28] at hv;obtain ⟨⟨l⟩, rfl, _⟩ := hv;obtain ⟨zs, h1, h2, h3⟩ := MD hf
 match zs, h2, h3 with
 | [z0, z1], _, h3 => exact ⟨z0, z1, by have : l = [.int .i64 z0, .int .i64 z1] := h1; rw [this]⟩
set_option maxRecDepth 100000 in
set_option maxHeartbeats 2000000 in
theorem FV {H : Type} {enc : TypeId × Value -> H} {W : World} {r : Reach} {b0 : Nat} {v : Value} {d : DataW H} {p : List MemPlace} (hv : Value.okWide Tryz.prog W r b0 27 v) (h : DataW.Trod enc Tryz.prog W 0 (fun _ => true) true 27 v d p) (hz : ∀ x ∈ DataW.weights Tryz.prog 27 d, x <= reachBytes) :
 ∃ a0 n0 c0 r0 a1 n1 c1 r1 a2 n2 c2 r2 a3 n3 c3 r3 z4 z5 z6, v = .agg #[.slice a0 n0 c0, .slice a1 n1 c1, .slice a2 n2 c2, .slice a3 n3 c3, .int .i64 z4, .int .i64 z5, .int .i64 z6] /\ r0.length = n0 /\ NiceS W a0 n0 c0 /\ RowsE (AG W) 1 a0 r0 /\ r1.length = n1 /\ NiceS W a1 n1 c1 /\ RowsE (AG W) 5 a1 r1 /\ r2.length = n2 /\ NiceS W a2 n2 c2 /\ RowsE (AG W) 4 a2 r2 /\ r3.length = n3 /\ NiceS W a3 n3 c3 /\ RowsE (AG W) 1 a3 r3 /\ I64 z4 /\ I64 z5 /\ I64 z6 := by
 obtain ⟨fuel, hf⟩ := h;simp only [Value.okWide, Tryz.underlying27] at hv;obtain ⟨cs, rfl, hsz, ts, hts, _, hc⟩ := hv;have e2 : Tryz.prog.cellTypes Tryz.prog.depth 27 = some [22, 23, 24, 22, 3, 3, 3] := kR
 rw [e2] at hts;cases hts;have e3 : Tryz.prog.cellsOf 27 = 7 := kR
 rw [e3] at hsz;obtain ⟨l⟩ := cs
 match l, hsz with
 | [x0, x1, x2, x3, x4, x5, x6], _ =>
  have u0 : ∃ t, [22, 23, 24, 22, 3, 3, 3][0]? = some t /\ Cell.okWide Tryz.prog W r b0 t x0 := by
   obtain ⟨t, h1, h2⟩ := hc 0 x0 rfl;exact ⟨t, h1, h2⟩
  obtain ⟨t0, e0, w0⟩ := u0;have : t0 = 22 := by simpa using e0.symm
  subst this;have u1 : ∃ t, [22, 23, 24, 22, 3, 3, 3][1]? = some t /\ Cell.okWide Tryz.prog W r b0 t x1 := by
   obtain ⟨t, h1, h2⟩ := hc 1 x1 rfl;exact ⟨t, h1, h2⟩
  obtain ⟨t1, e1, w1⟩ := u1;have : t1 = 23 := by simpa using e1.symm
  subst this;have u2 : ∃ t, [22, 23, 24, 22, 3, 3, 3][2]? = some t /\ Cell.okWide Tryz.prog W r b0 t x2 := by
   obtain ⟨t, h1, h2⟩ := hc 2 x2 rfl;exact ⟨t, h1, h2⟩
  obtain ⟨t2, e2, w2⟩ := u2;have : t2 = 24 := by simpa using e2.symm
  subst this;have u3 : ∃ t, [22, 23, 24, 22, 3, 3, 3][3]? = some t /\ Cell.okWide Tryz.prog W r b0 t x3 := by
   obtain ⟨t, h1, h2⟩ := hc 3 x3 rfl;exact ⟨t, h1, h2⟩
  obtain ⟨t3, e3, w3⟩ := u3;have : t3 = 22 := by simpa using e3.symm
  subst this;have u4 : ∃ t, [22, 23, 24, 22, 3, 3, 3][4]? = some t /\ Cell.okWide Tryz.prog W r b0 t x4 := by
   obtain ⟨t, h1, h2⟩ := hc 4 x4 rfl;exact ⟨t, h1, h2⟩
  obtain ⟨t4, e4, w4⟩ := u4;have : t4 = 3 := by simpa using e4.symm
  subst this;have u5 : ∃ t, [22, 23, 24, 22, 3, 3, 3][5]? = some t /\ Cell.okWide Tryz.prog W r b0 t x5 := by
   obtain ⟨t, h1, h2⟩ := hc 5 x5 rfl;exact ⟨t, h1, h2⟩
  obtain ⟨t5, e5, w5⟩ := u5;have : t5 = 3 := by simpa using e5.symm
  subst this;have u6 : ∃ t, [22, 23, 24, 22, 3, 3, 3][6]? = some t /\ Cell.okWide Tryz.prog W r b0 t x6 := by
   obtain ⟨t, h1, h2⟩ := hc 6 x6 rfl;exact ⟨t, h1, h2⟩
  obtain ⟨t6, e6, w6⟩ := u6;have : t6 = 3 := by simpa using e6.symm
  subst this;obtain ⟨xs, m, _, hx, _, hlen, hfs⟩ := DataW.trod_struct Tryz.underlying27 hf;have hd : d = .agg (xs.map (·.1)) := by simpa using congrArg Prod.fst hx
  have g_0 : ∃ y, xs[0]? = some y /\ DataW.trod enc Tryz.prog W 0 (fun _ => true) true m 22 [x0] = some y := by
   have hy : ∃ y, xs[0]? = some y := ⟨xs[0]'(by rw [hlen]; decide), List.getElem?_eq_getElem _⟩;obtain ⟨y, hy⟩ := hy;have h4 := hfs 0 _ rfl;rw [hy] at h4;have e4 : Tryz.prog.cellsOf 22 = 1 := kR
   exact ⟨y, hy, by simpa [e4, Value.cells] using h4⟩
  obtain ⟨⟨d_0, p_0⟩, gy_0, g_0⟩ := g_0;obtain ⟨a0, n0, c0, rfl, hN0⟩ := nV Tryz.underlying22 w0;have hz_0 : ∀ x ∈ DataW.weights Tryz.prog 22 d_0, x <= reachBytes := fun x hx' => hz x (by
   rw [hd];simp only [DataW.weights, Tryz.underlying27];exact DataW.weights_mem_each (j := 0) (t := 22) J (by rw [List.getElem?_map, gy_0]; rfl) x hx')
  obtain ⟨r0, f0, k0, _⟩ := Ez (w := 1) (bytes := 8) Tryz.underlying22 kR dE kR dE (iZ Tryz.underlying3) hN0 g_0 hz_0;have g_1 : ∃ y, xs[1]? = some y /\ DataW.trod enc Tryz.prog W 0 (fun _ => true) true m 23 [x1] = some y := by
   have hy : ∃ y, xs[1]? = some y := ⟨xs[1]'(by rw [hlen]; decide), List.getElem?_eq_getElem _⟩;obtain ⟨y, hy⟩ := hy;have h4 := hfs 1 _ rfl;rw [hy] at h4;have e4 : Tryz.prog.cellsOf 23 = 1 := kR
   exact ⟨y, hy, by simpa [e4, Value.cells] using h4⟩
  obtain ⟨⟨d_1, p_1⟩, gy_1, g_1⟩ := g_1;obtain ⟨a1, n1, c1, rfl, hN1⟩ := nV Tryz.underlying23 w1;have hz_1 : ∀ x ∈ DataW.weights Tryz.prog 23 d_1, x <= reachBytes := fun x hx' => hz x (by
   rw [hd];simp only [DataW.weights, Tryz.underlying27];exact DataW.weights_mem_each (j := 1) (t := 23) J (by rw [List.getElem?_map, gy_1]; rfl) x hx')
  obtain ⟨r1, f1, k1, _⟩ := Ez (w := 5) (bytes := 40) Tryz.underlying23 kR dE kR dE I1 hN1 g_1 hz_1;have g_2 : ∃ y, xs[2]? = some y /\ DataW.trod enc Tryz.prog W 0 (fun _ => true) true m 24 [x2] = some y := by
   have hy : ∃ y, xs[2]? = some y := ⟨xs[2]'(by rw [hlen]; decide), List.getElem?_eq_getElem _⟩;obtain ⟨y, hy⟩ := hy;have h4 := hfs 2 _ rfl;rw [hy] at h4;have e4 : Tryz.prog.cellsOf 24 = 1 := kR
   exact ⟨y, hy, by simpa [e4, Value.cells] using h4⟩
  obtain ⟨⟨d_2, p_2⟩, gy_2, g_2⟩ := g_2;obtain ⟨a2, n2, c2, rfl, hN2⟩ := nV Tryz.underlying24 w2;have hz_2 : ∀ x ∈ DataW.weights Tryz.prog 24 d_2, x <= reachBytes := fun x hx' => hz x (by
   rw [hd];simp only [DataW.weights, Tryz.underlying27];exact DataW.weights_mem_each (j := 2) (t := 24) J (by rw [List.getElem?_map, gy_2]; rfl) x hx')
  obtain ⟨r2, f2, k2, _⟩ := Ez (w := 4) (bytes := 32) Tryz.underlying24 kR dE kR dE I3 hN2 g_2 hz_2;have g_3 : ∃ y, xs[3]? = some y /\ DataW.trod enc Tryz.prog W 0 (fun _ => true) true m 22 [x3] = some y := by
   have hy : ∃ y, xs[3]? = some y := ⟨xs[3]'(by rw [hlen]; decide), List.getElem?_eq_getElem _⟩;obtain ⟨y, hy⟩ := hy;have h4 := hfs 3 _ rfl;rw [hy] at h4;have e4 : Tryz.prog.cellsOf 22 = 1 := kR
   exact ⟨y, hy, by simpa [e4, Value.cells] using h4⟩
  obtain ⟨⟨d_3, p_3⟩, gy_3, g_3⟩ := g_3;obtain ⟨a3, n3, c3, rfl, hN3⟩ := nV Tryz.underlying22 w3;have hz_3 : ∀ x ∈ DataW.weights Tryz.prog 22 d_3, x <= reachBytes := fun x hx' => hz x (by
   rw [hd];simp only [DataW.weights, Tryz.underlying27];exact DataW.weights_mem_each (j := 3) (t := 22) J (by rw [List.getElem?_map, gy_3]; rfl) x hx')
  obtain ⟨r3, f3, k3, _⟩ := Ez (w := 1) (bytes := 8) Tryz.underlying22 kR dE kR dE (iZ Tryz.underlying3) hN3 g_3 hz_3;have g_4 : ∃ y, xs[4]? = some y /\ DataW.trod enc Tryz.prog W 0 (fun _ => true) true m 25 [x4, x5, x6] = some y := by
   have hy : ∃ y, xs[4]? = some y := ⟨xs[4]'(by rw [hlen]; decide), List.getElem?_eq_getElem _⟩;obtain ⟨y, hy⟩ := hy;have h4 := hfs 4 _ rfl;rw [hy] at h4;have e4 : Tryz.prog.cellsOf 25 = 3 := kR
   exact ⟨y, hy, by simpa [e4, Value.cells] using h4⟩
  obtain ⟨⟨d_4, p_4⟩, gy_4, g_4⟩ := g_4;have hz_4 : ∀ x ∈ DataW.weights Tryz.prog 25 d_4, x <= reachBytes := fun x hx' => hz x (by
   rw [hd];simp only [DataW.weights, Tryz.underlying27];exact DataW.weights_mem_each (j := 4) (t := 25) J (by rw [List.getElem?_map, gy_4]; rfl) x hx')
  obtain ⟨xs_4, m_4, _, hx_4, _, hlen_4, hfs_4⟩ := DataW.trod_array Tryz.underlying25 g_4;have hd_4 : d_4 = .agg (xs_4.map (·.1)) := by simpa using congrArg Prod.fst hx_4
  have g_4_0 : ∃ y, xs_4[0]? = some y /\ DataW.trod enc Tryz.prog W 0 (fun _ => true) true m_4 3 [x4] = some y := by
   have hy : ∃ y, xs_4[0]? = some y := ⟨xs_4[0]'(by rw [hlen_4]; decide), List.getElem?_eq_getElem _⟩;obtain ⟨y, hy⟩ := hy;have h4 := hfs_4 0 oM;rw [hy] at h4;have e4 : Tryz.prog.cellsOf 3 = 1 := kR
   exact ⟨y, hy, by simpa [e4, Value.cells] using h4⟩
  obtain ⟨⟨d_4_0, p_4_0⟩, gy_4_0, g_4_0⟩ := g_4_0;obtain ⟨l_4_0, q_4_0, ql_4_0, wf_4_0⟩ := iZ (P := Tryz.prog) Tryz.underlying3 g_4_0;obtain ⟨z4, rfl⟩ : ∃ z, l_4_0 = [z] := by
   match l_4_0, ql_4_0 with
   | [z], _ => exact ⟨z, rfl⟩
  simp at q_4_0;subst q_4_0;have hi4 : I64 z4 := wf_4_0 _ sM;have g_4_1 : ∃ y, xs_4[1]? = some y /\ DataW.trod enc Tryz.prog W 0 (fun _ => true) true m_4 3 [x5] = some y := by
   have hy : ∃ y, xs_4[1]? = some y := ⟨xs_4[1]'(by rw [hlen_4]; decide), List.getElem?_eq_getElem _⟩;obtain ⟨y, hy⟩ := hy;have h4 := hfs_4 1 oM;rw [hy] at h4;have e4 : Tryz.prog.cellsOf 3 = 1 := kR
   exact ⟨y, hy, by simpa [e4, Value.cells] using h4⟩
  obtain ⟨⟨d_4_1, p_4_1⟩, gy_4_1, g_4_1⟩ := g_4_1;obtain ⟨l_4_1, q_4_1, ql_4_1, wf_4_1⟩ := iZ (P := Tryz.prog) Tryz.underlying3 g_4_1;obtain ⟨z5, rfl⟩ : ∃ z, l_4_1 = [z] := by
   match l_4_1, ql_4_1 with
   | [z], _ => exact ⟨z, rfl⟩
  simp at q_4_1;subst q_4_1;have hi5 : I64 z5 := wf_4_1 _ sM;have g_4_2 : ∃ y, xs_4[2]? = some y /\ DataW.trod enc Tryz.prog W 0 (fun _ => true) true m_4 3 [x6] = some y := by
   have hy : ∃ y, xs_4[2]? = some y := ⟨xs_4[2]'(by rw [hlen_4]; decide), List.getElem?_eq_getElem _⟩;obtain ⟨y, hy⟩ := hy;have h4 := hfs_4 2 oM;rw [hy] at h4;have e4 : Tryz.prog.cellsOf 3 = 1 := kR
   exact ⟨y, hy, by simpa [e4, Value.cells] using h4⟩
  obtain ⟨⟨d_4_2, p_4_2⟩, gy_4_2, g_4_2⟩ := g_4_2;obtain ⟨l_4_2, q_4_2, ql_4_2, wf_4_2⟩ := iZ (P := Tryz.prog) Tryz.underlying3 g_4_2;obtain ⟨z6, rfl⟩ : ∃ z, l_4_2 = [z] := by
   match l_4_2, ql_4_2 with
   | [z], _ => exact ⟨z, rfl⟩
  simp at q_4_2;subst q_4_2;have hi6 : I64 z6 := wf_4_2 _ sM;exact ⟨a0, n0, c0, r0, a1, n1, c1, r1, a2, n2, c2, r2, a3, n3, c3, r3, z4, z5, z6, rfl, f0, hN0, k0, f1, hN1, k1, f2, hN2, k2, f3, hN3, k3, hi4, hi5, hi6⟩
end
end Go.Proofs.YtjkdkpckjgaplaaGreat.Ev
namespace Go.Proofs.YtjkdkpckjgaplaaGreat
open Go Go.RowKit
namespace Ev
set_option maxRecDepth 1000000 in
set_option maxHeartbeats 0 in
theorem I4 : OG Tryz.prog cH 60000 6 = true := kR
end Ev
theorem Or (w : World) : Calls Tryz.prog 6 #[] w fun e w' => e = .returned (.bool true) /\ Below w.heap.size w w' := Ev.Nv Ev.xM Ev.I4 w
end Go.Proofs.YtjkdkpckjgaplaaGreat
