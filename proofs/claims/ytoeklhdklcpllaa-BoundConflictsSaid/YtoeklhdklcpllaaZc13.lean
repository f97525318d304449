import Derived.Test.YtoeklhdklcpllaaZc12
import Derived.Test.YtoeklhdklcpllaaZc09
import Derived.RowKit
import Derived.Lib.SlicesCompact
import Derived.Test.YtoeklhdklcpllaaProg
import Derived.Sort.OwnSortedInts
import Derived.Lib.OwnBridge
import Derived.Outline
import Derived.WalkKit
import Derived.WalkSpells
import Derived.WalkLawsBesides
import Derived.IntWalk
import Derived.Deep.QuietTactic
import Derived.BigQuiet
import Derived.Test.YtoeklhdklcpllaaZc10
set_option linter.unusedVariables false
set_option linter.unusedSimpArgs false
namespace Go.Proofs.Ytoeklhdklcpllaa
open Go Go.RowKit
namespace Ev
def modN (x m : Int) : Int := (x.tmod m + m).tmod m
theorem modN_bd {x m : Int} (h : 0 < m) : 0 <= modN x m /\ modN x m < m := by
 have h1 := tmodP_bd (x := x) h;unfold modN;exact ⟨Int.tmod_nonneg m (by omega), Int.tmod_lt_of_pos _ h⟩
theorem modN_sm {x m : Int} (h : 0 <= x) (h2 : x < m) : modN x m = x := by
 unfold modN;rw [Int.tmod_eq_emod_of_nonneg h, Int.emod_eq_of_lt h h2, Int.tmod_eq_emod_of_nonneg (by omega), Int.add_emod_right, Int.emod_eq_of_lt h h2]
theorem modN_up {x m : Int} (h : m <= x) (h0 : 0 < m) (h2 : x < m + m) : modN x m = x - m := by
 have e1 : x.tmod m = x - m := by
  have e : x = (x - m) + m := by omega
  have e2 : x % m = x - m := by
   rw [e, Int.add_emod_right, Int.emod_eq_of_lt (by omega) (by omega)]; omega
  rw [Int.tmod_eq_emod_of_nonneg (by omega), e2]
 unfold modN;rw [e1, Int.tmod_eq_emod_of_nonneg (by omega), Int.add_emod_right, Int.emod_eq_of_lt (by omega) (by omega)]
def mdM (r0 : Int) : Nat := (1 + modN r0 6).toNat
theorem mdM_bd {r0 : Int} : 1 <= mdM r0 /\ mdM r0 <= 6 /\ 1 + modN r0 6 = (mdM r0 : Int) := by
 have := modN_bd (x := r0) (m := 6) (by decide);unfold mdM; omega
def mdRow (M : Nat) (y0 y1 y2 y3 : Int) : List Int := [modN y0 ((M : Int) + 1), modN (modN y0 ((M : Int) + 1) + 1 + modN y1 (M : Int)) ((M : Int) + 1), modN y2 141 - 40, 1 + modN y3 6]
def mdR (M : Nat) (r : List Int) : List Int := mdRow M (r.getD 0 0) (r.getD 1 0) (r.getD 2 0) (r.getD 3 0)
def mdL (M : Nat) (rs : List (List Int)) : List (List Int) := (rs.take 20).map (mdR M)
def mdK (M : Nat) (rs : List (List Int)) (k : Nat) : List (List Int) := (rs.take k).map (mdR M)
theorem mdK_len {M : Nat} {rs : List (List Int)} {k : Nat} (h : k <= rs.length) : (mdK M rs k).length = k := by unfold mdK; rw [List.length_map, List.length_take]; omega
theorem mdL_len {M : Nat} {rs : List (List Int)} : (mdL M rs).length <= 20 := by unfold mdL; rw [List.length_map, List.length_take]; omega
theorem mdK_step {M : Nat} {rs : List (List Int)} {k : Nat} {y0 y1 y2 y3 : Int} (h : rs[k]? = some [y0, y1, y2, y3]) : mdK M rs (k + 1) = mdK M rs k ++ [mdRow M y0 y1 y2 y3] := by
 unfold mdK;rw [List.take_add_one, h, List.map_append]; rfl
theorem limC_row {y0 y1 y2 y3 : Int} : limC [[y0, y1, y2, y3]] = [.int .i64 y0, .int .i64 y1, .int .i64 y2, .int .i64 y3] := by kernel_rfl
theorem mdK_app {M : Nat} {rs : List (List Int)} {k : Nat} {y0 y1 y2 y3 : Int} (h : rs[k]? = some [y0, y1, y2, y3]) : limC (mdK M rs k) ++ [.int .i64 (modN y0 ((M : Int) + 1)), .int .i64 (modN (modN y0 ((M : Int) + 1) + 1 + modN y1 (M : Int)) ((M : Int) + 1)), .int .i64 (modN y2 141 - 40), .int .i64 (1 + modN y3 6)] = limC (mdK M rs (k + 1)) := by
 rw [mdK_step h, limC_app]
 congr 1
 exact limC_row.symm
theorem mdK_20 {M : Nat} {rs : List (List Int)} : mdK M rs 20 = mdL M rs := rfl
theorem mdK_all {M : Nat} {rs : List (List Int)} (h : rs.length <= 20) : mdK M rs rs.length = mdL M rs := by
 unfold mdK mdL;rw [List.take_of_length_le (Nat.le_refl _), List.take_of_length_le h]
theorem md_ok {M : Nat} {r : List Int} (h1 : 1 <= M) (h2 : M <= 6) : ∃ y0 y1 y2 y3 : Int, mdR M r = [y0, y1, y2, y3] /\ ((0 <= (M : Int) /\ (M : Int) <= 64) /\ (0 <= y0 /\ y0 <= M) /\ (0 <= y1 /\ y1 <= M) /\ ¬ y0 = y1 /\ (-20000 <= y2 /\ y2 <= 20000) /\ (1 <= y3 /\ y3 <= 99999)) /\ (-100 <= y2 /\ y2 <= 100) /\ (1 <= y3 /\ y3 <= 6) := by
 have a0 := modN_bd (x := r.getD 0 0) (m := (M : Int) + 1) (by omega);have a1 := modN_bd (x := r.getD 1 0) (m := (M : Int)) (by omega);have a2 := modN_bd (x := r.getD 2 0) (m := 141) (by decide);have a3 := modN_bd (x := r.getD 3 0) (m := 6) (by decide);have a4 := modN_bd (x := modN (r.getD 0 0) ((M : Int) + 1) + 1 + modN (r.getD 1 0) (M : Int)) (m := (M : Int) + 1) (by omega);have ne : ¬ modN (r.getD 0 0) ((M : Int) + 1) = modN (modN (r.getD 0 0) ((M : Int) + 1) + 1 + modN (r.getD 1 0) (M : Int)) ((M : Int) + 1) := by
  by_cases c : modN (r.getD 0 0) ((M : Int) + 1) + 1 + modN (r.getD 1 0) (M : Int) < (M : Int) + 1
  ·rw [modN_sm (x := modN (r.getD 0 0) ((M : Int) + 1) + 1 + modN (r.getD 1 0) (M : Int)) (by omega) c]; omega
  ·rw [modN_up (x := modN (r.getD 0 0) ((M : Int) + 1) + 1 + modN (r.getD 1 0) (M : Int)) (by omega) (by omega) (by omega)]; omega
 exact ⟨_, _, _, _, rfl, ⟨by omega, by omega, by omega, ne, by omega, by omega⟩, by omega, by omega⟩
theorem mdL_row {M : Nat} {rs : List (List Int)} {k : Nat} {y : List Int} (h : (mdL M rs)[k]? = some y) : ∃ r, y = mdR M r := by
 unfold mdL at h;rw [List.getElem?_map] at h;cases q : (rs.take 20)[k]? with
 | none => rw [q] at h; cases h
 | some r => rw [q] at h; cases h; exact ⟨r, rfl⟩
theorem mdL_lm {M : Nat} {rs : List (List Int)} (h1 : 1 <= M) (h2 : M <= 6) : lmB (M : Int) (mdL M rs) = true := by
 have key : ∀ k, k <= (mdL M rs).length -> lmB (M : Int) (mdL M rs) = lmB (M : Int) ((mdL M rs).drop k) := by
  intro k
  induction k with
  | zero => intro _; rfl
  | succ k ih =>
   intro hk;have hx := List.getElem?_eq_getElem (l := mdL M rs) (i := k) (by omega);obtain ⟨r, hr⟩ := mdL_row hx;obtain ⟨y0, y1, y2, y3, e, hc, _⟩ := md_ok (r := r) h1 h2;rw [hr, e] at hx;exact lmB_good hx (ih (by omega)) hc
 exact lmB_end (key _ (Nat.le_refl _)) (Nat.le_refl _)
theorem mdL_w {M : Nat} {rs : List (List Int)} (h1 : 1 <= M) (h2 : M <= 6) : ∀ i, i < (mdL M rs).length -> -100 <= lw (mdL M rs) i /\ lw (mdL M rs) i <= 100 := fun i hi => by
 have hx := List.getElem?_eq_getElem (l := mdL M rs) (i := i) hi;obtain ⟨r, hr⟩ := mdL_row hx;obtain ⟨y0, y1, y2, y3, e, hc, hd, _⟩ := md_ok (r := r) h1 h2;rw [hr, e] at hx;rw [lw_row hx]; exact hd
theorem mdL_fit {M : Nat} {rs : List (List Int)} (h1 : 1 <= M) (h2 : M <= 6) : ∀ r ∈ mdL M rs, r.length = 4 /\ ∀ x ∈ r, -9223372036854775808 <= x /\ x < 9223372036854775808 := fun r hr => by
 obtain ⟨k, hk, e⟩ := List.mem_iff_getElem.1 hr;obtain ⟨q, hq⟩ := mdL_row (List.getElem?_eq_getElem hk);obtain ⟨y0, y1, y2, y3, e2, hc, _⟩ := md_ok (r := q) h1 h2;rw [<- e, hq, e2];refine ⟨rfl, fun x hx => ?_⟩;simp only [List.mem_cons, List.not_mem_nil, or_false] at hx;omega
theorem mdL_sys {M : Nat} {rs : List (List Int)} (h1 : 1 <= M) (h2 : M <= 6) : sysE (M : Int) (mdL M rs) = 0 := by
 have := mdL_len (M := M) (rs := rs);unfold sysE;rw [if_pos (by omega), if_neg (by omega), if_pos (mdL_lm h1 h2)]
def TlR (TT : Nat) (a : Option Addr) (n c : Nat) (ts : List (List Int)) (TL : List Ob) : Prop := (a = none /\ n = 0 /\ c = 0 /\ ts = [] /\ TL = []) ∨ ∃ b op, a = some ⟨b, 0, none⟩ /\ 0 < n /\ ts.length = n /\ Tight op n c /\ TL = [.row b TT op (limC ts)]
theorem TlR.ok {TT : Nat} {a : Option Addr} {n c : Nat} {ts : List (List Int)} {TL : List Ob} (h : TlR TT a n c ts TL) : TlOk TT a ts TL /\ n = ts.length /\ (a = none -> c = 0) := by
 rcases h with ⟨rfl, rfl, rfl, rfl, rfl⟩ | ⟨b, op, rfl, h0, h1, h2, rfl⟩
 ·exact ⟨.inl ⟨rfl, rfl, fun b hb => by cases hb⟩, rfl, fun _ => rfl⟩
 ·exact ⟨.inr ⟨b, op, rfl, rfl⟩, h1.symm, fun q => by cases q⟩
theorem TlR.spot {TT : Nat} {a : Option Addr} {n c : Nat} {ts : List (List Int)} {TL : List Ob} (h : TlR TT a n c ts TL) : ∀ b, a = some b -> b.spot = none := fun b hb => by
 rcases h with ⟨rfl, _⟩ | ⟨b', op, rfl, _⟩
 ·cases hb
 ·cases hb; rfl
theorem a_appT {P : Program} {C : Nat -> (CF -> Bool) -> Bool} {X : FuncId -> List Value -> St -> (Value -> St -> Bool) -> Bool} {s0 : St} {n nt : Nat} {env : List (Nat × Value)} {A A1 A2 UL : List Ob} {R : Value -> List Ob -> Prop} {TU k c : Nat} {a : Option Addr} {ts : List (List Int)} {more z : List Value} {x y : Ev.X} {yv : Value} (hU : TlR TU a k c ts UL) (hA : A = A1 ++ (UL ++ A2)) (hx : xv env x = some (.slice a k c)) (hy : xv env y = some yv) (hsrc : Src s0 A 4 1 more yv) (hm : (1 : Nat) ≠ 0) (hb1 : k + 1 <= 1048576) (hb2 : 32 * (k + 1) <= 1073741824)
 (h : ∀ b, R (.slice (some ⟨b, 0, none⟩) (k + 1) OPEN) (.row b TU true (limC ts ++ more) :: (A1 ++ A2))) : OpA P C X s0 n nt (.app TU 4 32 z false x y) env A R := by
 rcases hU with ⟨rfl, rfl, rfl, rfl, rfl⟩ | ⟨b, op, rfl, h0, hl, ht, rfl⟩
 ·subst hA
  exact a_appn hx hy hsrc hm (by omega) (by omega) (fun b => by have := h b; exact this)
 ·subst hA
  have hd : Del (A1 ++ ([.row b TU op (limC ts)] ++ A2)) b TU op (limC ts) (A1 ++ A2) := by
   clear hsrc h
   induction A1 with
   | nil => exact .here
   | cons q A1 ih => exact .next ih
  exact a_app hx hy hsrc hd (by rw [limC_len, hl]) ht hm (by omega) (by omega) h
def IlR (TT : Nat) (a : Option Addr) (n c : Nat) (l : List Int) (TL : List Ob) : Prop := (a = none /\ n = 0 /\ c = 0 /\ l = [] /\ TL = []) ∨ ∃ b op, a = some ⟨b, 0, none⟩ /\ 0 < n /\ l.length = n /\ Tight op n c /\ TL = [.row b TT op (ints l)]
theorem a_appI {P : Program} {C : Nat -> (CF -> Bool) -> Bool} {X : FuncId -> List Value -> St -> (Value -> St -> Bool) -> Bool} {s0 : St} {n nt : Nat} {env : List (Nat × Value)} {A A1 A2 UL : List Ob} {R : Value -> List Ob -> Prop} {TU k c : Nat} {a : Option Addr} {l : List Int} {more z : List Value} {x y : Ev.X} {yv : Value} (hU : IlR TU a k c l UL) (hA : A = A1 ++ (UL ++ A2)) (hx : xv env x = some (.slice a k c)) (hy : xv env y = some yv) (hsrc : Src s0 A 1 1 more yv) (hm : (1 : Nat) ≠ 0) (hb1 : k + 1 <= 1048576) (hb2 : 8 * (k + 1) <= 1073741824)
 (h : ∀ b, R (.slice (some ⟨b, 0, none⟩) (k + 1) OPEN) (.row b TU true (ints l ++ more) :: (A1 ++ A2))) : OpA P C X s0 n nt (.app TU 1 8 z false x y) env A R := by
 rcases hU with ⟨rfl, rfl, rfl, rfl, rfl⟩ | ⟨b, op, rfl, h0, hl, ht, rfl⟩
 ·subst hA
  exact a_appn hx hy hsrc hm (by omega) (by omega) (fun b => by have := h b; exact this)
 ·subst hA
  have hd : Del (A1 ++ ([.row b TU op (ints l)] ++ A2)) b TU op (ints l) (A1 ++ A2) := by
   clear hsrc h
   induction A1 with
   | nil => exact .here
   | cons q A1 ih => exact .next ih
  exact a_app hx hy hsrc hd (by rw [ints_len, hl, Nat.mul_one]) ht hm (by omega) (by omega) h
section
variable {X : FuncId -> List Value -> St -> (Value -> St -> Bool) -> Bool}
theorem mod_s (n : Nat) (x m : Int) (s : St) (hs : Wf s) (hm : 0 < m /\ m <= 4000000000) : Spec Try.prog (tabK tabw) X (n + 60) 14 [.int .i64 x, .int .i64 m] s (fun v A => v = .int .i64 (modN x m) /\ A = []) := by
 refine enter bw14_at rfl hs ?_;unfold bw14;have hq := tmodP_bd (x := x) hm.1;refine rS (kM J J (Q0 (rS (kM J J (kM J J (kO J (a_rem J J (by omega) (kM J J (kO J (V3 J J (by omega) (kM J J (kO J (a_rem J J (by omega) (kM J J (Q0 (Y3 ?_))))))))))))))));exact end1 J ⟨rfl, rfl⟩
theorem made_s (n : Nat) (r0 : Int) (ar : Option Addr) (cr : Nat) (rs : List (List Int)) (s : St) (hs : Wf s) (hn : 562949953421312 <= n) (hR : RowsE s 4 ar rs) : Spec Try.prog (tabK tabw) X (n + 800) 8 [.agg ⟨[.int .i64 r0, .slice ar rs.length cr]⟩] s (fun v A => ∃ al cl TL, v = .agg ⟨[.int .i64 (mdM r0 : Int), .slice al (mdL (mdM r0) rs).length cl]⟩ /\ A = TL /\ TlR 38 al (mdL (mdM r0) rs).length cl (mdL (mdM r0) rs) TL) := by
 refine enter bw8_at rfl hs ?_;unfold bw8;have hlen := hR.len;obtain ⟨hM1, hM6, hMe⟩ := mdM_bd (r0 := r0);have hmr := modN_bd (x := r0) (m := 6) (by decide);generalize hMg : mdM r0 = M at *;refine rS (kO J (a_box J J J (fun b1 => (kO J (a_new J J (fun b2 => (Q0 (rS (kO J (Z2 J (kO J (Z1 J (.next .here) J (kO J (a_callV J J (fun s1 h1 => mod_s _ _ _ s1 h1.wf (by omega)) (kO J (V3 J J (by omega) ?_))))))))))))))));rw [hMe];refine kO J (Y7 J J (kO J (a_new J J (fun b3 => (kZ J (V6 J J .here rfl rfl rfl rfl (Q0 (rQ (rS (kO J (Z2 J (kO J (Z1 J (.next (.next .here)) J (kO J (a_lenx J hR.spot (kM J J (Q0 (Y1 ?_))))))))))))))))));refine Y5 (fun j e A => ∃ (k : Nat) (aT : Option Addr) (n9 cp : Nat) (TL : List Ob), e = [(2, .pointer (some ⟨b2, 0, none⟩)), (3, .pointer (some ⟨b3, 0, none⟩)), (14, .slice ar rs.length cr), (15, .int .i64 (rs.length : Int)), (16, .int .i64 (k : Int))] /\ A = (TL ++ (.row b3 29 false ([.int .i64 (M : Int), .slice aT n9 cp]) :: (.row b2 29 false ([.int .i64 0, .slice none 0 0]) :: []))) /\ j = rs.length - k /\ k <= rs.length /\ k <= 20 /\ n9 = k /\ TlR 38 aT n9 cp (mdK M rs k) TL) 300 0 281474976710656 ?_ (j := _) (env2 := _) (A2 := _) ?_ ?_ ?_ ?_ ⟨0, none, 0, 0, [], rfl, rfl, rfl, Nat.zero_le _, Nat.zero_le _, rfl, (.inl ⟨rfl, rfl, rfl, rfl, rfl⟩)⟩
 rotate_left
 ·omega
 ·omega
 ·exact (lc 2 J (lc 3 J (lc 14 J (lc 15 J (lc 16 J Less.nil)))))
 ·exact (.q (.q (.cons _ .slnil)))
 rintro n hn j _ _ ⟨k, aT, n9, cp, TL, rfl, rfl, rfl, hk, hk20, hn9, hU⟩;have hsp9 := hU.spot;refine rS (kO J (V5 J J (fun h4 => ?_) (fun h4 => ?_)))
 ·obtain ⟨q4, o4, y0, y1, y2, y3, ahR, hx, hat, i0, i1, i2, i3⟩ := hR.row4 (k := k) (by omega)
  have hat2 := hat;obtain ⟨d0, d1, d2, d3, _⟩ := hat2;have m0 := modN_bd (x := y0) (m := (M : Int) + 1) (by omega);have m1 := modN_bd (x := y1) (m := (M : Int)) (by omega);have m2 := modN_bd (x := y2) (m := 141) (by decide);have m3 := modN_bd (x := y3) (m := 6) (by decide);refine Q0 (rQ (Y0 J (Q1 (W0 (rQ (Y1 (rS (kM J J (kO J (a_iaA (j := k) ahR rfl rfl (by first | rfl | omega) (by first | decide | omega) (kO J (a_ldar J (by decide) (by assumption) J (kO J (a_new J J (fun b5 => (kM J J (kZ J (V6 J J .here rfl rfl rfl rfl (Q0 (rQ (rS (kM J J (kO J (a_eql J J (fun h6 => ?_) (fun h6 => ?_)))))))))))))))))))))))))
  ·refine Q0 (Y0 J (Q5 (Q3 (block_miss rfl (Q3 (Q3 (Z3 (W0 (rS (kO J (Z5 J (by decide) (.next (.app .here)) J (kZ J (V6 J J (.next (.app (.next .here))) J J J J (Q0 (Y3 ?_)))))))))))))))
   have hz9 : mdK M rs k = mdL M rs := by
    first
     | (rw [show k = 20 by omega]; exact mdK_20)
     | (rw [show k = rs.length by omega]; exact mdK_all (by omega))
   rw [hz9] at hU;obtain ⟨hz1, hz2, hz3⟩ := hU.ok;exact endcA J (by decide) (.cons _ (List.sublist_append_left _ _)) (.next (.app (.next .here))) J ⟨aT, cp, TL, by rw [<- hz2], rfl, hz2 ▸ hU⟩
  ·refine Q0 (Z0 J (Q1 (W0 (rS (kO J (a_iaa (j := 0) J J (by decide) (by decide) (kO J (Z1 J .here rfl (kO J (Z2 J (kO J (Z1 J (.next (.app .here)) J (kO J (V3 J J (by omega) (kO J (a_callV J J (fun s1 h1 => mod_s _ _ _ s1 h1.wf (by omega)) (kM J J (Q0 (rS (kM J J (kO J (V3 J J (by omega) (kO J (a_iaa (j := 1) J J (by decide) (by decide) (kO J (Z1 J .here rfl (kO J (Z2 J (kO J (Z1 J (.next (.app .here)) J (kO J (Z2 J (kO J (Z1 J (.next (.app .here)) J (kO J (V3 J J (by omega) (kO J (a_callV J J (fun s1 h1 => mod_s _ _ _ s1 h1.wf (by omega)) ?_))))))))))))))))))))))))))))))))))))))
   refine kZ J (a_again J J (.next (.app .here)) J (by simp [eqV, eqA, eqL, kindEq, intEq_eq, U6 hR.spot, U6 hsp9]) (kO J (V3 J J (by omega) (kO J (a_callV J J (fun s1 h1 => mod_s _ _ _ s1 h1.wf (by omega)) (kM J J (Q0 (rI (kO J (Z2 J (kO J (Z1 J (.next (.app .here)) J (kM J J (kM J J (kO J (a_iaa (j := 2) J J (by decide) (by decide) (kO J (Z1 J .here rfl (kO J (a_iaa (j := 3) J J (by decide) (by decide) (kO J (Z1 J .here rfl (kO J (a_callV J J (fun s1 h1 => mod_s _ _ _ s1 h1.wf (by omega)) (kZ J (a_again J J .here rfl (by simp [eqV, eqA, eqL, kindEq, intEq_eq, U6 hR.spot, U6 hsp9]) (kZ J (a_again J J (.next (.app .here)) J (by simp [eqV, eqA, eqL, kindEq, intEq_eq, U6 hR.spot, U6 hsp9]) (kO J (a_sub J J (by omega) (kO J (a_callV J J (fun s1 h1 => mod_s _ _ _ s1 h1.wf (by omega)) (kZ J (a_again J J (.next (.app .here)) J (by simp [eqV, eqA, eqL, kindEq, intEq_eq, U6 hR.spot, U6 hsp9]) (kO J (V3 J J (by omega) (kO J (Y7 J J (kO J (a_lit J J J (fun b7 => (kO J (a_appT (A1 := [_, _]) hU rfl rfl rfl (Src.own .here rfl (by simp)) (by decide) (by omega) (by omega) (fun b8 => ?_))))))))))))))))))))))))))))))))))))))))))));refine kO J (Z2 J (kZ J (a_st J J (.next (.next (.next .here))) J J (Q0 (U1 (W0 (rI (kO J (V3 J J (by omega) (kM J J (Q0 (W0 ?_))))))))))));exact ⟨rfl, _, _, _, (show rs.length - (k + 1) < rs.length - k by omega), (lc 2 J (lc 3 J (lc 14 J (lc 15 J (lc 16 J Less.nil))))), (.q (.cons _ (.cons _ (.q (.q .slnil))))), ⟨k + 1, some ⟨b8, 0, none⟩, n9 + 1, OPEN, [.row b8 38 true (limC (mdK M rs (k + 1)))], rfl, (by rw [<- mdK_app hx]; rfl), rfl, by omega, by omega, by omega, (.inr ⟨_, _, rfl, by omega, by rw [mdK_len (by omega)]; omega, .inl ⟨rfl, rfl⟩, rfl⟩)⟩⟩
 ·refine Q0 (rQ (Z0 J (Q5 (Q3 (Q3 (Z3 (W0 (rS (kO J (Z5 J (by decide) (.app .here) J (kZ J (V6 J J (.app (.next .here)) J J J J (Q0 (Y3 ?_))))))))))))))
  have hz9 : mdK M rs k = mdL M rs := by
   first
    | (rw [show k = 20 by omega]; exact mdK_20)
    | (rw [show k = rs.length by omega]; exact mdK_all (by omega))
  rw [hz9] at hU;obtain ⟨hz1, hz2, hz3⟩ := hU.ok;exact endcA J (by decide) (List.sublist_append_left _ _) (.app (.next .here)) J ⟨aT, cp, TL, by rw [<- hz2], rfl, hz2 ▸ hU⟩
end
theorem Spec.imp {P : Program} {C : Nat -> (CF -> Bool) -> Bool} {X : FuncId -> List Value -> St -> (Value -> St -> Bool) -> Bool} {n : Nat} {f : FuncId} {vs : List Value} {s : St} {Q Q' : Value -> List Ob -> Prop} (h : Spec P C X n f vs s Q) (hq : ∀ v A, Q v A -> Q' v A) : Spec P C X n f vs s Q' := h.mono (fun v s' q => by obtain ⟨A, h1, h2⟩ := q; exact ⟨A, h1, hq v A h2⟩)
section
variable {X : FuncId -> List Value -> St -> (Value -> St -> Bool) -> Bool}
end
def nF (F : Nat -> Nat -> Int) (N v : Nat) : Int := tot (fun a => F a v) N - tot (fun b => F v b) N
theorem colF_upd {F : Nat -> Nat -> Int} {a b N v : Nat} {z : Int} (ha : a < N) : tot (fun i => updT F a b z i v) N = tot (fun i => F i v) N + (if v = b then z - F a b else 0) := by
 by_cases e : v = b
 ·subst e
  rw [if_pos rfl, <- tot_upd (x := fun i => F i v) (b := a) (z := z) ha];exact Z6 (fun i _ => by
   unfold updT;by_cases q : i = a
   ·rw [if_pos ⟨q, rfl⟩, q, U2]
   ·rw [if_neg (fun z => q z.1), V0 q])
 ·rw [if_neg e, Int.add_zero]
  exact Z6 (fun i _ => if_neg (fun z => e z.2))
theorem rowF_upd {F : Nat -> Nat -> Int} {a b N v : Nat} {z : Int} (hb : b < N) : tot (fun j => updT F a b z v j) N = tot (fun j => F v j) N + (if v = a then z - F a b else 0) := by
 by_cases e : v = a
 ·subst e
  rw [if_pos rfl, <- tot_upd (x := fun j => F v j) (b := b) (z := z) hb];exact Z6 (fun j _ => by
   unfold updT;by_cases q : j = b
   ·rw [if_pos ⟨rfl, q⟩, q, U2]
   ·rw [if_neg (fun z => q z.2), V0 q])
 ·rw [if_neg e, Int.add_zero]
  exact Z6 (fun j _ => if_neg (fun z => e z.1))
theorem nF_upd {F : Nat -> Nat -> Int} {a b N v : Nat} {d : Int} (ha : a < N) (hb : b < N) : nF (updT F a b (F a b + d)) N v = nF F N v + ((if v = b then d else 0) - (if v = a then d else 0)) := by
 unfold nF;rw [colF_upd ha, rowF_upd hb, show F a b + d - F a b = d by omega];omega
theorem upT_eq {F : Nat -> Nat -> Int} {a b : Nat} {z : Int} : updT F a b z a b = z := if_pos ⟨rfl, rfl⟩
theorem upT_ne {F : Nat -> Nat -> Int} {a b i j : Nat} {z : Int} (h : ¬ (i = a /\ j = b)) : updT F a b z i j = F i j := if_neg h
structure MT (m : Nat -> Nat -> Int) (N : Nat) : Prop where
 dg : ∀ a, a < N -> m a a = 0
 lo : ∀ a b, a < N -> b < N -> -1300000 <= m a b
 hi : ∀ a b, a < N -> b < N -> m a b = 1000000000 ∨ m a b <= 1280000
def pos (need : Nat -> Int) (N : Nat) : Int := tot (fun v => max (need v) 0) N
structure LS (m : Nat -> Nat -> Int) (N : Nat) (w need : Nat -> Int) (F : Nat -> Nat -> Int) (p : Nat -> Int) : Prop where
 nn : ∀ a b, a < N -> b < N -> 0 <= F a b
 ar : ∀ a b, a < N -> b < N -> 0 < F a b -> a ≠ b /\ ¬ m a b = 1000000000 /\ p b = p a + m a b
 st : ∀ a b, a < N -> b < N -> ¬ m a b = 1000000000 -> p b <= p a + m a b
 nt : ∀ v, v < N -> nF F N v = w v - need v
 lo : ∀ v, v < N -> -1300000 <= p v
 so : ∀ v, v < N -> need v < 0 -> p v <= 0
 nb : ∀ v, v < N -> -3600000000000 <= need v /\ need v <= 3600000000000
 cp : ∀ a b, a < N -> b < N -> F a b + pos need N <= 3600000000000
def Ra (m F : Nat -> Nat -> Int) (a v : Nat) (k : Bool) (om : Int) : Prop := (k = false /\ a ≠ v /\ ¬ m a v = 1000000000 /\ om = m a v) ∨ (k = true /\ 0 < F v a /\ om = -(m v a))
theorem Ra.pot {m F : Nat -> Nat -> Int} {N : Nat} {w need p : Nat -> Int} {a v : Nat} {k : Bool} {om : Int} (hm : MT m N) (h : LS m N w need F p) (ha : a < N) (hv : v < N) (r : Ra m F a v k om) : p v <= p a + om /\ om <= 1300000 /\ -1300000 <= om /\ a ≠ v := by
 rcases r with ⟨_, h1, h2, rfl⟩ | ⟨_, h1, rfl⟩
 ·have := h.st a v ha hv h2
  have := (hm.hi a v ha hv).resolve_left h2;have := hm.lo a v ha hv;exact ⟨by omega, by omega, by omega, h1⟩
 ·obtain ⟨k1, k2, k3⟩ := h.ar v a hv ha h1
  have := (hm.hi v a hv ha).resolve_left k2;have := hm.lo v a hv ha;exact ⟨by omega, by omega, by omega, fun e => k1 e.symm⟩
structure Rh (m F : Nat -> Nat -> Int) (N : Nat) (need p x f : Nat -> Int) (bk : Nat -> Bool) (T : Nat -> Nat) (c : Nat) : Prop where
 lo : ∀ v, v < N -> ¬ x v = 1000000000 -> p v <= x v
 up : ∀ v, v < N -> ¬ x v = 1000000000 -> x v <= 1300000 * (fcn x N - 1)
 so : ∀ v, v < N -> need v < 0 -> x v <= 0
 rt : ∀ v, v < N -> f v = -1 -> x v = 1000000000 ∨ need v < 0
 pr : ∀ v, v < N -> ¬ f v = -1 -> ∃ a : Nat, f v = (a : Int) /\ a < N /\ ¬ x a = 1000000000 /\ ¬ x v = 1000000000 /\ ∃ om, Ra m F a v (bk v) om /\ x a + om <= x v /\ (x a - p a < x v - p v ∨ (x a - p a = x v - p v /\ T a < T v))
 ck : ∀ v, v < N -> T v < c
theorem Rh.bd {m F : Nat -> Nat -> Int} {N : Nat} {w need p x f : Nat -> Int} {bk : Nat -> Bool} {T : Nat -> Nat} {c : Nat} (hs : LS m N w need F p) (hN : N <= 65) (h : Rh m F N need p x f bk T c) {v : Nat} (hv : v < N) : -1300000 <= x v /\ (x v = 1000000000 ∨ x v <= 84500000) := by
 by_cases q : x v = 1000000000
 ·exact ⟨by omega, .inl q⟩
 ·have h1 := h.lo v hv q
  have h2 := hs.lo v hv;have h3 := h.up v hv q;have h4 := (cnt_bd (x := x) (N := N)).2;exact ⟨by omega, .inr (by omega)⟩
def Clo (m F : Nat -> Nat -> Int) (x : Nat -> Int) (a b : Nat) : Prop := (a ≠ b -> ¬ m a b = 1000000000 -> x b <= x a + m a b) /\ (0 < F b a -> x b <= x a - m b a)
structure Ps (m F : Nat -> Nat -> Int) (N : Nat) (x0 x : Nat -> Int) (g : Bool) (a b : Nat) : Prop where
 no : g = false -> tot x N = tot x0 N /\ (∀ i j, i < a -> j < N -> ¬ x i = 1000000000 -> Clo m F x i j) /\ (∀ j, j < b -> ¬ x a = 1000000000 -> Clo m F x a j)
 yes : g = true -> tot x N < tot x0 N
theorem Ps.row {m F : Nat -> Nat -> Int} {N : Nat} {x0 x : Nat -> Int} {g : Bool} {a : Nat} (h : Ps m F N x0 x g a N) : Ps m F N x0 x g (a + 1) 0 := ⟨fun q => by
 obtain ⟨h1, h2, h3⟩ := h.no q;refine ⟨h1, fun i j hi hj hx => ?_, fun j hj => absurd hj (Nat.not_lt_zero j)⟩;by_cases e : i = a
 ·subst e; exact h3 j hj hx
 ·exact h2 i j (by omega) hj hx, h.yes⟩
structure Rf (m F : Nat -> Nat -> Int) (N : Nat) (need p x f : Nat -> Int) (bk : Nat -> Bool) (T : Nat -> Nat) (c : Nat) : Prop where
 rh : Rh m F N need p x f bk T c
 fw : ∀ a b, a < N -> b < N -> ¬ x a = 1000000000 -> ¬ m a b = 1000000000 -> ¬ x b = 1000000000 /\ x b <= x a + m a b
 bw : ∀ a b, a < N -> b < N -> ¬ x a = 1000000000 -> 0 < F b a -> ¬ x b = 1000000000 /\ x b <= x a - m b a
section
variable {X : FuncId -> List Value -> St -> (Value -> St -> Bool) -> Bool}
end
def rk (x p : Nat -> Int) (T : Nat -> Nat) (c v : Nat) : Nat := (x v - p v).toNat * (c + 1) + T v
def an (f : Nat -> Int) (v : Nat) : Nat -> Nat
 | 0 => v
 | i + 1 => (f (an f v i)).toNat
theorem Rh.rank {m F : Nat -> Nat -> Int} {N : Nat} {need p x f : Nat -> Int} {bk : Nat -> Bool} {T : Nat -> Nat} {c : Nat} (h : Rh m F N need p x f bk T c) {v : Nat} (hv : v < N) (hf : ¬ f v = -1) : ∃ a : Nat, f v = (a : Int) /\ a < N /\ ¬ x a = 1000000000 /\ ¬ x v = 1000000000 /\ rk x p T c a < rk x p T c v /\ ∃ om, Ra m F a v (bk v) om /\ x a + om <= x v := by
 obtain ⟨a, e1, e2, e3, e4, om, e5, e6, e7⟩ := h.pr v hv hf;refine ⟨a, e1, e2, e3, e4, ?_, om, e5, e6⟩;have l1 := h.lo a e2 e3;have l2 := h.lo v hv e4;have ca := h.ck a e2;unfold rk;rcases e7 with q | ⟨q, q2⟩
 ·have h1 : ((x a - p a).toNat + 1) * (c + 1) <= (x v - p v).toNat * (c + 1) := Nat.mul_le_mul_right _ (by omega)
  rw [Nat.add_mul, Nat.one_mul] at h1;omega
 ·rw [q]; omega
structure Tr (m F : Nat -> Nat -> Int) (N : Nat) (need x f : Nat -> Int) (bk : Nat -> Bool) (to k : Nat) (mu : Int) : Prop where
 lt : ∀ i, i <= k -> an f to i < N /\ ¬ x (an f to i) = 1000000000
 st : ∀ i, i < k -> ¬ f (an f to i) = -1
 mu1 : 1 <= mu /\ mu <= need to
 bks : ∀ i, i < k -> bk (an f to i) = true -> mu <= F (an f to i) (an f to (i + 1))
theorem Tr.next {m F : Nat -> Nat -> Int} {N : Nat} {need p x f : Nat -> Int} {bk : Nat -> Bool} {T : Nat -> Nat} {c to k : Nat} {mu : Int} (h : Rh m F N need p x f bk T c) (ht : Tr m F N need x f bk to k mu) (hc : 0 <= need (an f to k) ∨ 0 <= f (an f to k)) : ∃ a : Nat, f (an f to k) = (a : Int) /\ a = an f to (k + 1) /\ a < N /\ rk x p T c a < rk x p T c (an f to k) /\ (bk (an f to k) = true -> Tr m F N need x f bk to (k + 1) (min mu (F (an f to k) a))) /\ (bk (an f to k) = false -> Tr m F N need x f bk to (k + 1) mu) := by
 obtain ⟨h1, h2⟩ := ht.lt k (Nat.le_refl _);have hf : ¬ f (an f to k) = -1 := fun q => by
  rcases h.rt _ h1 q with z | z
  ·exact h2 z
  ·omega
 obtain ⟨a, e1, e2, e3, _, e5, om, e6, _⟩ := h.rank h1 hf;have ea : a = an f to (k + 1) := by show a = (f (an f to k)).toNat; rw [e1]; exact (Int.toNat_natCast a).symm
 have hlt : ∀ i, i <= k + 1 -> an f to i < N /\ ¬ x (an f to i) = 1000000000 := fun i hi => by
  by_cases q : i = k + 1
  ·rw [q, <- ea]; exact ⟨e2, e3⟩
  ·exact ht.lt i (by omega)
 have hst : ∀ i, i < k + 1 -> ¬ f (an f to i) = -1 := fun i hi => by
  by_cases q : i = k
  ·rw [q]; exact hf
  ·exact ht.st i (by omega)
 refine ⟨a, e1, ea, e2, e5, fun q => ?_, fun q => ?_⟩
 ·have hF : 0 < F (an f to k) a := by
   rcases e6 with ⟨z, _⟩ | ⟨_, z, _⟩
   ·rw [q] at z; cases z
   ·exact z
  have := ht.mu1;refine ⟨hlt, hst, ⟨by omega, by omega⟩, fun i hi hb => ?_⟩;by_cases z : i = k
  ·rw [z, <- ea]; omega
  ·have := ht.bks i (by omega) hb
   omega
 ·refine ⟨hlt, hst, ht.mu1, fun i hi hb => ?_⟩
  by_cases z : i = k
  ·rw [z, q] at hb; cases hb
  ·exact ht.bks i (by omega) hb
def pN (x p : Nat -> Int) (v : Nat) : Int := if x v = 1000000000 then p v + 2000000000 else x v
theorem pN_x {x p : Nat -> Int} {v : Nat} (h : ¬ x v = 1000000000) : pN x p v = x v := if_neg h
structure Au (m F G : Nat -> Nat -> Int) (N : Nat) (p2 : Nat -> Int) (r : Nat -> Nat) (to v : Nat) (mu : Int) : Prop where
 nn : ∀ a b, a < N -> b < N -> 0 <= G a b
 lw : ∀ a b, a < N -> b < N -> r a <= r v -> F a b <= G a b
 up : ∀ a b, a < N -> b < N -> r b <= r v -> G a b <= F a b
 cp : ∀ a b, a < N -> b < N -> G a b <= F a b + mu
 ar : ∀ a b, a < N -> b < N -> 0 < G a b -> a ≠ b /\ ¬ m a b = 1000000000 /\ p2 b = p2 a + m a b
 nt : ∀ u, u < N -> nF G N u = nF F N u + ((if u = to then mu else 0) - (if u = v then mu else 0))
theorem Au.next {m F G : Nat -> Nat -> Int} {N : Nat} {p x f : Nat -> Int} {need w : Nat -> Int} {bk : Nat -> Bool} {T : Nat -> Nat} {c to k i : Nat} {mu : Int} (hm : MT m N) (hs : LS m N w need F (pN x p)) (h : Rf m F N need p x f bk T c) (ht : Tr m F N need x f bk to k mu) (hi : i < k) (ha : Au m F G N (pN x p) (rk x p T c) to (an f to i) mu) : ∃ a : Nat, f (an f to i) = (a : Int) /\ a = an f to (i + 1) /\ a < N /\ rk x p T c a < rk x p T c (an f to i) /\ (bk (an f to i) = true -> mu <= G (an f to i) a /\ Au m F (updT G (an f to i) a (G (an f to i) a - mu)) N (pN x p) (rk x p T c) to a mu) /\ (bk (an f to i) = false -> Au m F (updT G a (an f to i) (G a (an f to i) + mu)) N (pN x p) (rk x p T c) to a mu) := by
 obtain ⟨h1, h2⟩ := ht.lt i (by omega);obtain ⟨a, e1, e2, e3, e4, e5, om, e6, e7⟩ := h.rh.rank h1 (ht.st i hi);have ea : a = an f to (i + 1) := by show a = (f (an f to i)).toNat; rw [e1]; exact (Int.toNat_natCast a).symm
 have hmu := ht.mu1.1;generalize hv : an f to i = v at *;have hne : a ≠ v := fun z => by rw [z] at e5; exact Nat.lt_irrefl _ e5
 refine ⟨a, e1, ea, e2, e5, fun q => ?_, fun q => ?_⟩
 ·have hF : mu <= F v a := by have := ht.bks i hi (by rw [hv]; exact q); rw [hv, <- ea] at this; exact this
  have hG : mu <= G v a := by have := ha.lw v a h1 e2 (Nat.le_refl _); omega
  refine ⟨hG, fun b d hb hd => ?_, fun b d hb hd hr => ?_, fun b d hb hd hr => ?_, fun b d hb hd => ?_, fun b d hb hd hp => ?_, fun u hu => ?_⟩
  ·by_cases z : b = v /\ d = a
   ·rw [z.1, z.2, upT_eq]; omega
   ·rw [upT_ne z]; exact ha.nn b d hb hd
  ·by_cases z : b = v /\ d = a
   ·rw [z.1] at hr; omega
   ·rw [upT_ne z]; exact ha.lw b d hb hd (by omega)
  ·by_cases z : b = v /\ d = a
   ·rw [z.1, z.2, upT_eq]
    rw [z.2] at hr;have := ha.up v a h1 e2 (by omega);omega
   ·rw [upT_ne z]; exact ha.up b d hb hd (by omega)
  ·by_cases z : b = v /\ d = a
   ·rw [z.1, z.2, upT_eq]; have := ha.cp v a h1 e2; omega
   ·rw [upT_ne z]; exact ha.cp b d hb hd
  ·by_cases z : b = v /\ d = a
   ·rw [z.1, z.2]
    exact ha.ar v a h1 e2 (by omega)
   ·rw [upT_ne z] at hp; exact ha.ar b d hb hd hp
  ·rw [show G v a - mu = G v a + -mu by omega, nF_upd h1 e2, ha.nt u hu]
   by_cases z1 : u = v
   ·rw [if_pos z1, if_pos z1, if_neg (show ¬ u = a from fun z => hne (by rw [<- z, z1])), if_neg (show ¬ u = a from fun z => hne (by rw [<- z, z1]))]; omega
   ·rw [if_neg z1, if_neg z1]
    split <;> omega
 ·have hr : ¬ m a v = 1000000000 /\ om = m a v := by
   rcases e6 with ⟨_, _, z1, z2⟩ | ⟨z, _⟩
   ·exact ⟨z1, z2⟩
   ·rw [q] at z; cases z
  have htight : pN x p v = pN x p a + m a v := by
   rw [pN_x e3, pN_x e4];have := (h.fw a v e2 h1 e3 hr.1).2;rw [hr.2] at e7;omega
  refine ⟨fun b d hb hd => ?_, fun b d hb hd hr2 => ?_, fun b d hb hd hr2 => ?_, fun b d hb hd => ?_, fun b d hb hd hp => ?_, fun u hu => ?_⟩
  ·by_cases z : b = a /\ d = v
   ·rw [z.1, z.2, upT_eq]; have := ha.nn a v e2 h1; omega
   ·rw [upT_ne z]; exact ha.nn b d hb hd
  ·by_cases z : b = a /\ d = v
   ·rw [z.1, z.2, upT_eq]; have := ha.lw a v e2 h1 (by omega); omega
   ·rw [upT_ne z]; exact ha.lw b d hb hd (by omega)
  ·by_cases z : b = a /\ d = v
   ·rw [z.2] at hr2; omega
   ·rw [upT_ne z]; exact ha.up b d hb hd (by omega)
  ·by_cases z : b = a /\ d = v
   ·rw [z.1, z.2, upT_eq]; have := ha.up a v e2 h1 (Nat.le_refl _); omega
   ·rw [upT_ne z]; exact ha.cp b d hb hd
  ·by_cases z : b = a /\ d = v
   ·rw [z.1, z.2]; exact ⟨hne, hr.1, htight⟩
   ·rw [upT_ne z] at hp; exact ha.ar b d hb hd hp
  ·rw [nF_upd e2 h1, ha.nt u hu]
   by_cases z1 : u = v
   ·rw [if_pos z1, if_neg (show ¬ u = a from fun z => hne (by rw [<- z, z1]))]; omega
   ·rw [if_neg z1]
    split <;> omega
def IsM (ls : List (List Int)) (M : Nat) (w : Nat -> Int) (z : Int) : Prop := (∀ x : Nat -> Int, (∀ i, i < ls.length -> x (lb ls i) <= x (la ls i) + lw ls i) -> tot (fun v => x v * w v) (M + 1) <= z) /\ ∃ x : Nat -> Int, (∀ i, i < ls.length -> x (lb ls i) <= x (la ls i) + lw ls i) /\ tot (fun v => x v * w v) (M + 1) = z
section
variable {X : FuncId -> List Value -> St -> (Value -> St -> Bool) -> Bool}
end
def Kq (ls : List (List Int)) (x : Nat -> Int) : Prop := ∀ i, i < ls.length -> x (lb ls i) <= x (la ls i) + lw ls i
theorem lm_cat {m : Int} {l r : List (List Int)} : lmB m (l ++ r) = (lmB m l && lmB m r) := by
 induction l with
 | nil => rfl
 | cons a l ih =>
  match a with
  | [y0, y1, y2, y3] =>
   show (decide _ && lmB m (l ++ r)) = ((decide _ && lmB m l) && lmB m r);rw [ih, Bool.and_assoc]
  | [] => rfl
  | [_] => rfl
  | [_, _] => rfl
  | [_, _, _] => rfl
  | _ :: _ :: _ :: _ :: _ :: _ => rfl
theorem IsM.same {ls l2 : List (List Int)} {M : Nat} {w : Nat -> Int} {z : Int} (h : ∀ x, Kq ls x ↔ Kq l2 x) (hm : IsM ls M w z) : IsM l2 M w z := ⟨fun x hx => hm.1 x ((h x).2 hx), by
 obtain ⟨x, h1, h2⟩ := hm.2;exact ⟨x, (h x).1 h1, h2⟩⟩
theorem pt_uns {ls : List (List Int)} {M : Nat} {x : Nat -> Int} (hl : lmB (M : Int) ls = true) (h4 : ls.length <= 400) (hM : M <= 64) (hx : Kq ls x) : ¬ Uns ls (M + 1) := fun hu => by
 obtain ⟨l0, hl0, he⟩ : ∃ u : Nat, u < M + 1 /\ (stl ls (M + 1) (M + 1)).l = (u : Int) := ((sb_of hl h4 hM).last M (by omega)).resolve_left (hu M (by omega));obtain ⟨p, hp1, hp2, hp3⟩ := itr_back (sb_of hl h4 hM).par hl0;obtain ⟨k, rfl⟩ : ∃ k, p = k + 1 := ⟨p - 1, by omega⟩;obtain ⟨hch, hn⟩ := uns_neg hl h4 hM hl0 he hp3;have := pt_chain hx hch (k + 1);rw [hp3] at this;omega
section
variable {X : FuncId -> List Value -> St -> (Value -> St -> Bool) -> Bool}
end
theorem a_appO {P : Program} {C : Nat -> (CF -> Bool) -> Bool} {X : FuncId -> List Value -> St -> (Value -> St -> Bool) -> Bool} {s0 : St} {n nt : Nat} {env : List (Nat × Value)} {A : List Ob} {R : Value -> List Ob -> Prop} {e size bytes b len cap m : Nat} {z more l : List Value} {x y : Ev.X} {yv : Value} {A' : List Ob} (hcap : cap = OPEN) (hx : xv env x = some (.slice (some ⟨b, 0, none⟩) len cap)) (hy : xv env y = some yv) (hsrc : Src s0 A size m more yv) (hu : Upd A b e true l (over l (len * size) more) A') (hfit : (len + m) * size <= l.length) (hb1 : len + m <= 1048576) (hb2 : bytes * (len + m) <= 1073741824)
 (h : R (.slice (some ⟨b, 0, none⟩) (len + m) OPEN) A') : OpA P C X s0 n nt (.app e size bytes z false x y) env A R := .mk fun s hs T hT k hk => by
 refine Y6 hT (k := fun x => valK T y (fun y => appK s e size bytes z false x y k)) hx (Y6 hT (k := fun y => appK s e size bytes z false _ y k) hy ?_);unfold appK;refine moreK_of hs hsrc ?_;obtain ⟨_, _, _, _, hml, hm0, _⟩ := hsrc;show ifB (Nat.beq cap 0) _ (ifB (Nat.ble (Nat.add len m) 1048576) (ifB (Nat.ble (Nat.mul bytes (Nat.add len m)) 1073741824) (appAtK s e size b 0 len cap m more k) false) false) = true;rw [beqF (show cap ≠ 0 by rw [hcap]; decide)];show ifB (Nat.ble (Nat.add len m) 1048576) (ifB (Nat.ble (Nat.mul bytes (Nat.add len m)) 1073741824) (appAtK s e size b 0 len cap m more k) false) false = true;rw [show Nat.ble (Nat.add len m) 1048576 = true from by rw [Nat.ble_eq]; exact hb1, show Nat.ble (Nat.mul bytes (Nat.add len m)) 1073741824 = true from by rw [Nat.ble_eq]; exact hb2];show appAtK s e size b 0 len cap m more k = true;obtain ⟨c, hc, hf, hg⟩ := hs.own hu.own;unfold appAtK;refine objK_of (k := _) hc ?_;have hfit2 : len * size + more.length <= l.length := by rw [hml, <- Nat.add_mul]; exact hfit
 show ifB (Nat.beq e e) (ifB (Nat.ble OPEN cap) (ifB true (ifB (Nat.beq 0 0) (ifB (Nat.beq cap OPEN) (ifB (Nat.ble (Nat.mul (Nat.add len m) size) l.length) (putsK c (Nat.mul len size) more _) _) _) _) _) _) false = true;rw [show Nat.beq e e = true from by rw [Nat.beq_eq], show Nat.ble OPEN cap = true from by rw [Nat.ble_eq]; omega, show Nat.beq cap OPEN = true from by rw [Nat.beq_eq]; exact hcap, show Nat.ble (Nat.mul (Nat.add len m) size) l.length = true from by rw [Nat.ble_eq]; exact hfit];show putsK c (len * size) more _ = true;refine putsK_of hf hfit2 (fun c' hc' hg' => storeK_of hs.wf (Full.lt hs.wf hc) (fun s1 hm1 hn1 hd1 => ?_));rw [forceN_eq];have hol : (over l (len * size) more).length = l.length := over_length hfit2;refine hk _ _ ⟨_, hs.upd hu hm1 ⟨c', by rw [hol]; exact hd1, by rw [hol]; exact hc', fun j => ?_⟩, h⟩;rw [hg', over_get hfit2];by_cases h1 : len * size <= j /\ j < len * size + more.length
 ·rw [if_pos h1, if_pos h1]
 ·rw [if_neg h1, if_neg h1, hg]
theorem a_clr {P : Program} {C : Nat -> (CF -> Bool) -> Bool} {X : FuncId -> List Value -> St -> (Value -> St -> Bool) -> Bool} {s0 : St} {n nt : Nat} {env : List (Nat × Value)} {A : List Ob} {R : Value -> List Ob -> Prop} {size e b off n9 cap : Nat} {op : Bool} {z l : List Value} {x : Ev.X} {A' : List Ob} (hx : xv env x = some (.slice (some ⟨b, off, none⟩) n9 cap)) (hn : n9 ≠ 0) (hu : Upd A b e op l (over l off (repeatN z n9)) A') (hz : (repeatN z n9).length = n9 * size) (hfit : off + n9 * size <= l.length)
 (h : R (.tuple #[]) A') : OpA P C X s0 n nt (.clear size z x) env A R := .mk fun s hs T hT k hk => by
 refine Y6 hT (k := fun x => clearK s size z x k) hx ?_;obtain ⟨c, hc, hf, hg⟩ := hs.own hu.own;have hfit2 : off + (repeatN z n9).length <= l.length := by rw [hz]; exact hfit
 show ifB (Nat.beq n9 0) _ (rowK s b (fun m c e op => ifB (Nat.ble (Nat.add off (Nat.mul n9 size)) m) (putsK c off (repeatN z n9) (fun c => storeK s b (.cells m c e op) (k (.tuple #[])))) false)) = true;rw [beqF hn];unfold rowK;refine objK_of (k := _) hc ?_;show ifB (Nat.ble (Nat.add off (Nat.mul n9 size)) l.length) (putsK c off (repeatN z n9) _) false = true;rw [show Nat.ble (Nat.add off (Nat.mul n9 size)) l.length = true from by rw [Nat.ble_eq]; exact hfit];refine putsK_of hf hfit2 (fun c' hc' hg' => storeK_of hs.wf (Full.lt hs.wf hc) (fun s1 hm1 hn1 hd1 => ?_));have hol : (over l off (repeatN z n9)).length = l.length := over_length hfit2;refine hk _ _ ⟨_, hs.upd hu hm1 ⟨c', by rw [hol]; exact hd1, by rw [hol]; exact hc', fun j => ?_⟩, h⟩;rw [hg', over_get hfit2];by_cases h1 : off <= j /\ j < off + (repeatN z n9).length
 ·rw [if_pos h1, if_pos h1]
 ·rw [if_neg h1, if_neg h1, hg]
theorem a_appO0 {P : Program} {C : Nat -> (CF -> Bool) -> Bool} {X : FuncId -> List Value -> St -> (Value -> St -> Bool) -> Bool} {s0 : St} {n nt : Nat} {env : List (Nat × Value)} {A : List Ob} {R : Value -> List Ob -> Prop} {e size bytes b len cap b9 o9 c9 : Nat} {z l : List Value} {x y : Ev.X} {A' : List Ob} (hcap : cap = OPEN) (hx : xv env x = some (.slice (some ⟨b, 0, none⟩) len cap)) (hy : xv env y = some (.slice (some ⟨b9, o9, none⟩) 0 c9)) (hu : Upd A b e true l l A') (hfit : len * size <= l.length) (hb1 : len <= 1048576) (hb2 : bytes * len <= 1073741824)
 (h : R (.slice (some ⟨b, 0, none⟩) len OPEN) A') : OpA P C X s0 n nt (.app e size bytes z false x y) env A R := .mk fun s hs T hT k hk => by
 refine Y6 hT (k := fun x => valK T y (fun y => appK s e size bytes z false x y k)) hx (Y6 hT (k := fun y => appK s e size bytes z false _ y k) hy ?_);unfold appK;show ifB (Nat.beq cap 0) _ (ifB (Nat.ble (Nat.add len 0) 1048576) (ifB (Nat.ble (Nat.mul bytes (Nat.add len 0)) 1073741824) (appAtK s e size b 0 len cap 0 [] k) false) false) = true;rw [beqF (show cap ≠ 0 by rw [hcap]; decide)];show ifB (Nat.ble (Nat.add len 0) 1048576) (ifB (Nat.ble (Nat.mul bytes (Nat.add len 0)) 1073741824) (appAtK s e size b 0 len cap 0 [] k) false) false = true;rw [show Nat.ble (Nat.add len 0) 1048576 = true from by rw [Nat.ble_eq]; exact hb1, show Nat.ble (Nat.mul bytes (Nat.add len 0)) 1073741824 = true from by rw [Nat.ble_eq]; exact hb2];show appAtK s e size b 0 len cap 0 [] k = true;obtain ⟨c, hc, hf, hg⟩ := hs.own hu.own;unfold appAtK;refine objK_of (k := _) hc ?_;show ifB (Nat.beq e e) (ifB (Nat.ble OPEN cap) (ifB true (ifB (Nat.beq 0 0) (ifB (Nat.beq cap OPEN) (ifB (Nat.ble (Nat.mul (Nat.add len 0) size) l.length) (putsK c (Nat.mul len size) [] _) _) _) _) _) _) false = true;rw [show Nat.beq e e = true from by rw [Nat.beq_eq], show Nat.ble OPEN cap = true from by rw [Nat.ble_eq]; omega, show Nat.beq cap OPEN = true from by rw [Nat.beq_eq]; exact hcap, show Nat.ble (Nat.mul (Nat.add len 0) size) l.length = true from by rw [Nat.ble_eq]; exact hfit];show storeK s b (CObj.cells l.length c e true) (fun s => forceN (Nat.add len 0) (fun l => k (.slice (some ⟨b, 0, none⟩) l OPEN) s)) = true;refine storeK_of hs.wf (Full.lt hs.wf hc) (fun s1 hm1 hn1 hd1 => ?_);rw [forceN_eq];exact hk _ _ ⟨_, hs.upd hu hm1 ⟨c, hd1, hf, hg⟩, h⟩
section
variable {X : FuncId -> List Value -> St -> (Value -> St -> Bool) -> Bool}
end
inductive Cut (U : List Ob) : List Ob -> List Ob -> Prop where
 | here {A : List Ob} : Cut U (U ++ A) A
 | next {x : Ob} {A A' : List Ob} (h : Cut U A A') : Cut U (x :: A) (x :: A')
theorem Cut.one {x : Ob} {A : List Ob} : Cut [x] (x :: A) A := .here
theorem Cut.app {U T A A' : List Ob} (h : Cut U A A') : Cut U (T ++ A) (T ++ A') := by
 induction T with
 | nil => exact h
 | cons x T ih => exact .next ih
theorem Cut.parts {U A A' : List Ob} (h : Cut U A A') : ∃ A1 A2, A = A1 ++ (U ++ A2) /\ A' = A1 ++ A2 := by
 induction h with
 | here => exact ⟨[], _, rfl, rfl⟩
 | next _ ih =>
  obtain ⟨A1, A2, h1, h2⟩ := ih;exact ⟨_ :: A1, A2, by rw [h1]; rfl, by rw [h2]; rfl⟩
theorem a_appIC {P : Program} {C : Nat -> (CF -> Bool) -> Bool} {X : FuncId -> List Value -> St -> (Value -> St -> Bool) -> Bool} {s0 : St} {n nt : Nat} {env : List (Nat × Value)} {A : List Ob} {R : Value -> List Ob -> Prop} {A' UL : List Ob} {TU k c : Nat} {a : Option Addr} {l : List Int} {more z : List Value} {x y : Ev.X} {yv : Value} (hU : IlR TU a k c l UL) (hA : Cut UL A A') (hx : xv env x = some (.slice a k c)) (hy : xv env y = some yv) (hsrc : Src s0 A 1 1 more yv) (hm : (1 : Nat) ≠ 0) (hb1 : k + 1 <= 1048576) (hb2 : 8 * (k + 1) <= 1073741824)
 (h : ∀ b, R (.slice (some ⟨b, 0, none⟩) (k + 1) OPEN) (.row b TU true (ints l ++ more) :: A')) : OpA P C X s0 n nt (.app TU 1 8 z false x y) env A R := by
 obtain ⟨A1, A2, h1, h2⟩ := hA.parts;exact a_appI hU h1 hx hy hsrc hm hb1 hb2 (fun b => by rw [<- h2]; exact h b)
section
variable {X : FuncId -> List Value -> St -> (Value -> St -> Bool) -> Bool}
end
def TlO (TT : Nat) (a : Option Addr) (n c : Nat) (ts : List (List Int)) (TL : List Ob) : Prop := (a = none /\ n = 0 /\ c = 0 /\ ts = [] /\ TL = []) ∨ ∃ b, a = some ⟨b, 0, none⟩ /\ 0 < n /\ ts.length = n /\ c = OPEN /\ TL = [.row b TT true (limC ts)]
theorem TlO.tlr {TT : Nat} {a : Option Addr} {n c : Nat} {ts : List (List Int)} {TL : List Ob} (h : TlO TT a n c ts TL) : TlR TT a n c ts TL := by
 rcases h with h | ⟨b, h1, h2, h3, h4, h5⟩
 ·exact .inl h
 ·exact .inr ⟨b, true, h1, h2, h3, .inl ⟨rfl, h4⟩, h5⟩
theorem IlR.rows {TT : Nat} {s0 s : St} {a : Option Addr} {n c : Nat} {l : List Int} {TL A : List Ob} (h : IlR TT a n c l TL) (hA : TL.Sublist A) (hs : Hld s0 A s) (hf : ∀ x ∈ l, -9223372036854775808 <= x /\ x < 9223372036854775808) (hl : l.length < 140737488355328) : IntsE s a l := by
 rcases h with ⟨rfl, _, _, rfl, _⟩ | ⟨b, op, rfl, _, _, _, h2⟩
 ·exact .nil
 ·exact IntsE.own ((hs.sub hA).own (by rw [h2]; exact .here)) hf hl
/-! Ranges with and without a limit. -/
theorem get_mem {l : List Int} {k : Nat} (h : k < l.length) : l.getD k 0 ∈ l := by
 rw [List.getD_eq_getElem?_getD, List.getElem?_eq_getElem h]; exact List.getElem_mem h
theorem mem_get {l : List Int} {x : Int} (h : x ∈ l) : ∃ k, k < l.length /\ l.getD k 0 = x := by
 obtain ⟨k, hk, e⟩ := List.mem_iff_getElem.1 h;exact ⟨k, hk, by rw [List.getD_eq_getElem?_getD, List.getElem?_eq_getElem hk]; exact e⟩
section
variable {X : FuncId -> List Value -> St -> (Value -> St -> Bool) -> Bool}
theorem Has_s (n : Nat) (aw : Option Addr) (cw : Nat) (w : List Int) (y : Int) (s : St) (hs : Wf s) (hn : 281474976710656 <= n) (hW : IntsE s aw w) : Spec Try.prog (tabK tabw) X (n + 300) 21 [.slice aw w.length cw, .int .i64 y] s (fun v A => (y ∈ w /\ v = .bool true /\ A = []) ∨ (¬ y ∈ w /\ v = .bool false /\ A = [])) := by
 refine enter bw21_at rfl hs ?_;unfold bw21;have hlen := hW.len;refine rS (kM J J (Q0 (rQ (rS (kM J J (kO J (a_lenx J hW.spot (kM J J (Q0 (Y1 (Y5 (fun j e A => ∃ (k : Nat), e = [(1, .int .i64 y), (7, .slice aw w.length cw), (8, .int .i64 (w.length : Int)), (9, .int .i64 (k : Int))] /\ A = [] /\ j = w.length - k /\ k <= w.length /\ ∀ j, j < k -> ¬ w.getD j 0 = y) 200 0 281474976710656 ?_ (j := _) (env2 := _) (A2 := _) ?_ ?_ ?_ ?_ ⟨0, rfl, rfl, rfl, Nat.zero_le _, (fun j hj => absurd hj (Nat.not_lt_zero j))⟩)))))))))))
 rotate_left
 ·omega
 ·omega
 ·exact (lc 1 J (lc 7 J (lc 8 J (lc 9 J Less.nil))))
 ·exact .slnil
 rintro n hn j _ _ ⟨k, rfl, rfl, rfl, hk, hne⟩;refine rS (kO J (V5 J J (fun h1 => ?_) (fun h1 => ?_)))
 ·refine Q0 (rQ (Y0 J (Q1 (W0 (rQ (Y1 (rS (kO J (V7 (j := k) hW rfl rfl (by omega) (by first | rfl | omega) (by omega) (fun _ _ a2 => (kO J (Q7 J (hW.at a2 (by omega)) (kM J J (Q0 (rS (kM J J (kM J J (kO J (a_eql J J (fun h3 => ?_) (fun h3 => ?_))))))))))))))))))))
  ·have hk9 : w.getD k 0 = y := h3
   refine Q0 (Y0 J (rS (kM J J (Q0 (Y3 (W7 (U3 (U3 (W7 (U3 ?_))))))))));exact end1 J (.inl ⟨hk9 ▸ get_mem (by omega), rfl, rfl⟩)
  ·refine Q0 (Z0 J (Q1 (U1 (W0 (rI (kO J (V3 J J (by omega) (kM J J (Q0 (W0 ?_))))))))))
   exact ⟨rfl, _, _, _, (show w.length - (k + 1) < w.length - k by omega), (lc 1 J (lc 7 J (lc 8 J (lc 9 J Less.nil)))), .slnil, ⟨k + 1, rfl, rfl, rfl, by omega, (fun j hj => by by_cases e : j = k; exact e ▸ (by assumption); exact hne j (by omega))⟩⟩
 ·refine Q0 (rQ (Z0 J (Q5 (Q3 (Q3 (Z3 (W0 (rS (kM J J (Q0 (Y3 ?_)))))))))))
  exact end1 J (.inr ⟨fun q => (by obtain ⟨j, h1, h2⟩ := mem_get q; exact hne j (by omega) h2), rfl, rfl⟩)
end
end Ev
end Go.Proofs.Ytoeklhdklcpllaa
namespace Go.Proofs.Ytoeklhdklcpllaa
open Go Go.RowKit Go.Lib
theorem srt_le (zs : List Int) (h : zs.Pairwise (· <= ·)) (i j : Nat) (hij : i <= j) (hj : j < zs.length) : zs.toArray[i]! <= zs.toArray[j]! := by
 rw [getElem!_pos zs.toArray i (by simp; omega), getElem!_pos zs.toArray j (by simpa using hj)];simp only [List.getElem_toArray];rcases Nat.lt_or_ge i j with h1 | h1
 ·exact (List.pairwise_iff_getElem.1 h) i j (by omega) hj h1
 ·have : i = j := by omega
  subst this;exact Int.le_refl _
theorem cpt_inc (zs : List Int) (h : zs.Pairwise (· <= ·)) : (compact zs).Pairwise (· < ·) := by
 unfold compact compactUpTo;rw [List.pairwise_map];rw [List.pairwise_filter];have hr : (List.range zs.length).Pairwise (fun i j => i < j /\ j < zs.length) := by
  rw [List.pairwise_iff_getElem];intro i j hi hj hij;simp only [List.getElem_range];simp only [List.length_range] at hj;exact ⟨hij, hj⟩
 refine hr.imp ?_;intro i j ⟨hij, hj⟩ _ hk;simp only [keeps, decide_eq_true_eq] at hk;have hne : zs.toArray[j]! ≠ zs.toArray[j - 1]! := by
  rcases hk with hk | hk
  ·omega
  ·exact hk
 have h1 := srt_le zs h i (j - 1) (by omega) (by omega);have h2 := srt_le zs h (j - 1) j (by omega) hj;omega
theorem cpt_mem (zs : List Int) (z : Int) : z ∈ compact zs ↔ z ∈ zs := by
 constructor
 ·intro h
  simp only [compact, compactUpTo, List.mem_map, List.mem_filter, List.mem_range] at h;obtain ⟨k, ⟨hk, _⟩, rfl⟩ := h;rw [getElem!_pos zs.toArray k (by simpa using hk)];simp
 ·intro h
  obtain ⟨k, hk, rfl⟩ := List.getElem_of_mem h;clear h;have e : ∀ k (hk : k < zs.length), zs.toArray[k]! = zs[k] := fun k hk => by
   rw [getElem!_pos zs.toArray k (by simpa using hk)]; simp
  have : ∀ k (hk : k < zs.length), zs[k] ∈ compact zs := by
   intro k
   induction k with
   | zero =>
    intro hk;simp only [compact, compactUpTo, List.mem_map, List.mem_filter, List.mem_range];exact ⟨0, ⟨hk, by simp [keeps]⟩, e 0 hk⟩
   | succ k ih =>
    intro hk;by_cases hq : zs.toArray[k + 1]! = zs.toArray[k]!
    ·have := ih (by omega)
     rw [e _ hk, e k (by omega)] at hq;rw [hq]; exact this
    ·simp only [compact, compactUpTo, List.mem_map, List.mem_filter, List.mem_range]
     exact ⟨k + 1, ⟨hk, by simp only [keeps, decide_eq_true_eq]; right; simpa using hq⟩, e _ hk⟩
  exact this k hk
def rsn (zs : List Int) : List Int := compact (zs.mergeSort fun x y => decide (x <= y))
theorem sort_le (zs : List Int) : (zs.mergeSort fun x y => decide (x <= y)).Pairwise (· <= ·) := by
 have := List.pairwise_mergeSort (le := fun (x y : Int) => decide (x <= y)) (fun a b c => by simp; omega) (fun a b => by simp; omega) zs;simpa using this
theorem rsn_inc (zs : List Int) : (rsn zs).Pairwise (· < ·) := cpt_inc _ (sort_le zs)
theorem rsn_mem (zs : List Int) (z : Int) : z ∈ rsn zs ↔ z ∈ zs := by
 rw [rsn, cpt_mem]; exact List.mem_mergeSort
end Go.Proofs.Ytoeklhdklcpllaa
namespace Go.Proofs.Ytoeklhdklcpllaa
open Go Go.RowKit Go.Lib Go.Sort Go.Proofs
theorem cpt_len (zs : List Int) : (compact zs).length <= zs.length := by
 unfold compact compactUpTo;rw [List.length_map];exact Nat.le_trans (List.length_filter_le _ _) (by simp)
def SortIs : Prop := ∀ (blk off cap : Nat) (zs : List Int) (w : World), Holds (Value.int .i64) w blk off zs.toArray -> blk < w.heap.size -> zs.length < 4611686018427387904 ->
 Calls Try.prog 68 #[.slice (some ⟨blk, off, none⟩) zs.length cap] w fun e w' => e = .returned (.tuple #[]) /\ ∃ n os, w' = grow (putRow (Value.int .i64) (Sort.ahead w n) blk off (zs.mergeSort fun x y => decide (x <= y)).toArray) os
def SortNo : Prop := ∀ (p : Option Addr) (cap : Nat) (w : World), Calls Try.prog 68 #[.slice p 0 cap] w fun e w' => e = .returned (.tuple #[]) /\ w' = w
def CptIs : Prop := ∀ (blk off cap : Nat) (zs : List Int) (w : World), Holds (Value.int .i64) w blk off zs.toArray -> zs.length <= 9223372036854775807 -> zs.length <= cap ->
 Calls Try.prog 69 #[.slice (some ⟨blk, off, none⟩) zs.length cap] w fun e w' => e = .returned (.slice (some ⟨blk, off, none⟩) (compact zs).length cap) /\ ∃ q, w' = putRow (Value.int .i64) (Sort.ahead w q) blk off (compact zs ++ List.replicate (zs.length - (compact zs).length) 0).toArray
def CptNo : Prop := ∀ (a : Option Addr) (cap : Nat) (w : World), Calls Try.prog 69 #[.slice a 0 cap] w fun e w' => e = .returned (.slice a 0 cap) /\ w' = w
theorem hide {p : Prop} (h : p) : Hid p := h
def rsZ (zs : List Int) : List Int := rsn zs ++ List.replicate (zs.length - (rsn zs).length) 0
theorem rsn_le (zs : List Int) : (rsn zs).length <= zs.length := by
 have := cpt_len (zs.mergeSort fun x y => decide (x <= y))
 rwa [List.length_mergeSort] at this
theorem rsZ_len (zs : List Int) : (rsZ zs).length = zs.length := by
 have := rsn_le zs;unfold rsZ; rw [List.length_append, List.length_replicate]; omega
theorem putI (cur : Array Value) (ts : List Int) (j : Nat) (h : ts.length <= cur.size) : (putCells (Value.int .i64) 0 ts.toArray cur)[j]? = if j < ts.length then (ts.map (Value.int .i64))[j]? else cur[j]? := by
 unfold putCells;rw [Array.getElem?_mapIdx];by_cases q : j < ts.length
 ·rw [if_pos q, Array.getElem?_eq_getElem (by omega), Option.map_some, if_pos ⟨Nat.zero_le _, by simpa using q⟩, List.getElem?_map, List.getElem?_eq_getElem q]
  simp [getElem!_pos, q]
 ·rw [if_neg q]
  by_cases p : j < cur.size
  ·rw [Array.getElem?_eq_getElem p, Option.map_some, if_neg (fun k => q (by have := k.2; simp at this; exact this))]
  ·rw [Array.getElem?_eq_none (by omega)]; rfl
theorem put_heap {w : World} {g n : Nat} {cur : Array Value} {e : TypeId} {fr : Nat × Nat} (d : Array Int) (hb : w.heap[g]? = some (.cells cur e fr)) : (putRow (Value.int .i64) (Sort.ahead w n) g 0 d).heap[g]? = some (.cells (putCells (Value.int .i64) 0 d cur) e fr) := by
 simp [putRow, mapBlock, Sort.ahead, Array.getElem?_modify, hb, onCells]
theorem put_grown {w w1 : World} {g n : Nat} (d : Array Int) (h : w.grownBy w1 (some g)) : w.grownBy (putRow (Value.int .i64) (Sort.ahead w1 n) g 0 d) (some g) := by
 obtain ⟨h1, h2, h3, h4, h5⟩ := h;refine ⟨h1, h2, h3, by simpa [putRow, mapBlock, Sort.ahead] using h4, fun k hk hne => ?_⟩;rw [<- h5 k hk hne];have : g ≠ k := fun e => hne (by rw [e])
 simp [putRow, mapBlock, Sort.ahead, Array.getElem?_modify, this]
def RisW (b cap : Nat) (zs : List Int) (cur : Array Value) (e : TypeId) (W : World) (x : Ending) (w' : World) : Prop := x = .returned (.slice (some ⟨b, 0, none⟩) (rsn zs).length cap) /\ W.grownBy w' (some b) /\ ∃ cur', w'.heap[b]? = some (.cells cur' e (0, 0)) /\ cur'.size = cur.size /\ ∀ j, cur'[j]? = if j < zs.length then ((rsZ zs).map (Value.int .i64))[j]? else cur[j]?
set_option maxRecDepth 100000 in
set_option maxHeartbeats 4000000 in
theorem rising_of (S : SortIs) (C : CptIs) (b cap : Nat) (zs : List Int) (cur : Array Value) (e : TypeId) (W : World) (hb : W.heap[b]? = some (.cells cur e (0, 0))) (ht : cur.toList.take zs.length = zs.map (Value.int .i64)) (hn : zs.length <= cur.size) (hcap : zs.length <= cap) (hbig : zs.length * 8 <= 140737488355328) :
 Calls Try.prog 46 #[.slice (some ⟨b, 0, none⟩) zs.length cap] W (RisW b cap zs cur e W) := by
 have hbs : b < W.heap.size := (Array.getElem?_eq_some_iff.1 hb).1;obtain ⟨ts, hts⟩ : ∃ ts, (zs.mergeSort fun x y => decide (x <= y)) = ts := ⟨_, rfl⟩;have hl : ts.length = zs.length := by rw [<- hts]; exact List.length_mergeSort _
 have hr : rsn zs = compact ts := by rw [<- hts]; rfl
 have HS := hide (S b 0 cap zs W (holds_of_blockI hb ht) hbs (by omega));rw [hts] at HS;have hle := cpt_len ts;have H1 : Hid (∀ n os, ∀ w1, w1 = grow (putRow (Value.int .i64) (Sort.ahead W n) b 0 ts.toArray) os -> (Calls Try.prog 69 #[.slice (some ⟨b, 0, none⟩) zs.length cap] w1 (RisW b cap zs cur e W))) := by
  refine hide ?_;intro n os w1 hw1;have hg1 := heap_sortedI (n := n) (os := os) ts.toArray hb;have hgr := grownBy_sortedI (w := W) (g := b) (n := n) (os := os) ts.toArray;rw [<- hw1] at hg1 hgr;have hs1 : (putCells (Value.int .i64) 0 ts.toArray cur).size = cur.size := by simp [putCells]
  have := C b 0 cap ts w1 (holds_of_blockI hg1 (take_putCellsI cur ts (by omega))) (by omega) (by omega);rw [hl] at this;refine this.mono ?_;rintro x w2 ⟨rfl, q, rfl⟩;refine ⟨by rw [hr], put_grown _ hgr, _, put_heap _ hg1, by simp [putCells], fun j => ?_⟩;have hz : (compact ts ++ List.replicate (zs.length - (compact ts).length) 0) = rsZ zs := by unfold rsZ; rw [hr]
  rw [hz, putI _ _ _ (by rw [rsZ_len, hs1]; omega), rsZ_len];by_cases q : j < zs.length
  ·rw [if_pos q, if_pos q]
  ·rw [if_neg q, if_neg q, putI _ _ _ (by omega), if_neg (by omega)]
 clear hb ht hbig hl hr hle hts S C hcap hn
 go_enter Try.func46, Try.ntmps46
 go_wp2_with (first
  | (go_at_call 68; go_loud (refine (HS.out).mono ?_; rintro x w1 ⟨rfl, n1, os1, hw1⟩; have H2 := hide (H1.out n1 os1 w1 hw1); clear hw1))
  | (go_at_call 69; go_loud (refine (H2.out).mono ?_; rintro x w' ⟨rfl, hq⟩)))
 go_ret
 exact ⟨rfl, hq⟩
set_option maxRecDepth 100000 in
set_option maxHeartbeats 4000000 in
theorem rising_no (S0 : SortNo) (C0 : CptNo) (W : World) : Calls Try.prog 46 #[.slice none 0 0] W fun x w' => x = .returned (.slice none 0 0) /\ Below W.heap.size W w' := by
 have HS := hide S0; have HC := hide C0; clear S0 C0
 go_enter Try.func46, Try.ntmps46
 go_wp2_with (first
  | (go_at_call 68; refine (HS.out _ _ _).mono ?_; rintro e w' ⟨rfl, rfl⟩)
  | (go_at_call 69; refine (HC.out _ _ _).mono ?_; rintro e w' ⟨rfl, rfl⟩))
 go_ret
 exact ⟨rfl, Below.refl _ _⟩
end Go.Proofs.Ytoeklhdklcpllaa
namespace Go.Proofs.Ytoeklhdklcpllaa.Ev
open Go Go.RowKit
noncomputable section
theorem Emb.rowW {P : Program} {K : Kp} {B : Nat} {m : Mp} {s : St} {w w' : World} (E : Emb P K B m s w) {b X y N e : Nat} {tr tr' : BT Value} {op : Bool} {h' : BT CObj} {cur cur' : Array Value} (hm : m b = some (X, y)) (hg : s.h.get b = some (.cells N tr e op)) (hh : ∀ j, h'.get j = if j = b then some (.cells N tr' e op) else s.h.get j)
 (hw : w.heap[X]? = some (.cells cur e (0, 0))) (hw' : w'.heap[X]? = some (.cells cur' e (0, 0))) (hs : cur'.size = cur.size) (hgr : w.grownBy w' (some X)) (hc : ∀ j v, tr'.get j = some v -> (∃ v', cur'[j]? = some v' /\ VR m v v') /\ oneCell v = true /\ j < N) : Emb P K B m ⟨h', s.n⟩ w' /\ Below B w w' := by
 have hX : B <= X := E.own hm hg (fun g q => by cases q);obtain ⟨h1, h2, h3, h4, h5⟩ := hgr;obtain ⟨ob, hob, hOR⟩ := E.obj b X y _ hm hg;rw [hw] at hob;cases hob;obtain ⟨cs, e1, hN, _, hop, _⟩ := hOR;cases e1;have hne : ∀ {i x z}, m i = some (x, z) -> i ≠ b -> x = X -> s.h.get i = some .dead := fun {i x z} hi hb hx => by
  subst hx;rcases E.inj i b x z y hi hm hb hX with q | q
  ·exact q
  ·rw [hg] at q; cases q
 refine ⟨⟨fun i x z hi => ⟨?_, Nat.lt_of_lt_of_le (E.low i x z hi).2 h4⟩, E.old, fun i x z o hi ho => ?_, fun i j x z z' hi hj hne2 hx => ?_, Nat.le_trans E.base h4, fun i o hi => ?_⟩, ⟨h1, h2, h3, h4, fun k hk => h5 k (Nat.lt_of_lt_of_le hk E.base) (fun q => by cases q; omega)⟩⟩
 ·rcases (E.low i x z hi).1 with q | ⟨g, q⟩
  ·exact .inl q
  ·refine .inr ⟨g, ?_⟩
   have : i ≠ b := fun e => by rw [e, hg] at q; cases q
   show h'.get i = _;rw [hh, if_neg this]; exact q
 ·have ho' : h'.get i = some o := ho
  rw [hh] at ho';by_cases q : i = b
  ·subst q
   rw [if_pos rfl] at ho';cases ho';rw [hm] at hi;cases hi;exact ⟨_, hw', cur', rfl, by omega, fun j v hj => (hc j v hj).1, fun ht => by obtain ⟨x, z, k1, k2⟩ := hop ht; exact ⟨x, z, k1, by rw [hs]; exact k2⟩, fun j v hj => (hc j v hj).2⟩
  ·rw [if_neg q] at ho'
   by_cases p : x = X
   ·have := hne hi q p
    rw [ho'] at this;cases this;subst p;exact ⟨_, hw', trivial⟩
   ·obtain ⟨o', k1, k2⟩ := E.obj i x z o hi ho'
    exact ⟨o', (h5 x (E.low i x z hi).2 (fun q => by cases q; exact p rfl)).trans k1, k2⟩
 ·have dead : ∀ {i}, s.h.get i = some .dead -> h'.get i = some .dead := fun {i} q => by
   have : i ≠ b := fun e => by rw [e, hg] at q; cases q
   rw [hh, if_neg this]; exact q
  rcases E.inj i j x z z' hi hj hne2 hx with q | q
  ·exact .inl (dead q)
  ·exact .inr (dead q)
 ·obtain ⟨k1, k2, k3⟩ := E.kept i o hi
  have : i ≠ b := fun e => by rw [e, hm] at k1; cases k1
  exact ⟨k1, by show h'.get i = _; rw [hh, if_neg this]; exact k2, k3⟩
def RiseP (P : Program) (vs : List Value) (s : St) (k : Value -> St -> Bool) : Prop :=
 (vs = [.slice none 0 0] /\ k (.slice none 0 0) s = true) ∨
 ∃ b c N tr e op, ∃ zs : List Int, vs = [.slice (some ⟨b, 0, none⟩) zs.length c] /\ s.h.get b = some (.cells N tr e op) /\ zs.length <= N /\ (∀ j, j < zs.length -> tr.get j = (ints zs)[j]?) /\ ((c = OPEN /\ op = true /\ P.cellsOf e = 1) ∨ (c < OPEN /\ zs.length <= c)) /\ zs.length * 8 <= 140737488355328 /\ putsK tr 0 (ints (rsZ zs)) (fun tr' => storeK s b (.cells N tr' e op) (fun s' => k (.slice (some ⟨b, 0, none⟩) (rsn zs).length c) s')) = true
def riseX (P : Program) (f : Nat) : FuncId -> List Value -> St -> (Value -> St -> Bool) -> Bool := fun g vs s k => @decide (g = f /\ RiseP P vs s k) (Classical.propDecidable _)
def orX (X Y : FuncId -> List Value -> St -> (Value -> St -> Bool) -> Bool) : FuncId -> List Value -> St -> (Value -> St -> Bool) -> Bool := fun g vs s k => X g vs s k || Y g vs s k
theorem KnownOk.or {P : Program} {X Y : FuncId -> List Value -> St -> (Value -> St -> Bool) -> Bool} (h : KnownOk P X) (h2 : KnownOk P Y) : KnownOk P (orX X Y) := by
 intro K B f vs s k hk m w us E hv;have hk' : (X f vs s k || Y f vs s k) = true := hk;rcases Bool.or_eq_true _ _ ▸ hk' with q | q
 ·exact h q E hv
 ·exact h2 q E hv
def RiseWorld (P : Program) (f : Nat) : Prop := (∀ (b cap : Nat) (zs : List Int) (cur : Array Value) (e : TypeId) (W : World), W.heap[b]? = some (.cells cur e (0, 0)) -> cur.toList.take zs.length = zs.map (Value.int .i64) -> zs.length <= cur.size -> zs.length <= cap -> zs.length * 8 <= 140737488355328 -> Calls P f #[.slice (some ⟨b, 0, none⟩) zs.length cap] W (RisW b cap zs cur e W)) /\ ∀ W, Calls P f #[.slice none 0 0] W fun x w' => x = .returned (.slice none 0 0) /\ Below W.heap.size W w'
theorem lr_one {m : Mp} {v : Value} {us : List Value} (h : LR m [v] us) : ∃ u, us = [u] /\ VR m v u := by
 simp only [LR] at h;obtain ⟨u, us', rfl, h1, h2⟩ := h;subst h2;exact ⟨u, rfl, h1⟩
theorem rise_ok {P : Program} {f : Nat} {cf : CF} (hc : compF P f = some cf) (h : RiseWorld P f) : KnownOk P (riseX P f) := by
 intro K B g vs s k hk m w us E hv;unfold riseX at hk;obtain ⟨rfl, hR⟩ := @of_decide_eq_true _ (Classical.propDecidable _) hk;obtain ⟨fn, cd, r, e1, e2, e3, e4, _⟩ := compF_inv hc;refine ⟨fun w => ?_, ?_⟩
 ·have h4' : ¬ fn.name = "runtime.NumGoroutine" := by simpa using e4
  simp [callFunc, e1, e2, h4']
 rcases hR with ⟨rfl, hk3⟩ | ⟨b, c, N, tr, e, op, zs, rfl, hg, hN, hz, hcap, hbig, hp⟩
 ·obtain ⟨u, rfl, hu⟩ := lr_one hv
  have := hu.slice_none;subst this;refine CallsIn.mono ((callsIn_wide (n := 0)).2 (h.2 w)) (fun x w' he => ?_);obtain ⟨rfl, hb⟩ := he;exact ⟨.slice none 0 0, s, m, hk3, Mp.le_refl m, E.below hb, hb.mono E.base, hu⟩
 ·obtain ⟨u, rfl, hu⟩ := lr_one hv
  obtain ⟨tr', hp2, _, htr⟩ := putsK_inv hp;obtain ⟨h', hk6, _, hh⟩ := storeK_inv hp2;obtain ⟨X, y, cap, hm, rfl, hcp, hvr⟩ : ∃ X y cap, m b = some (X, y) /\ u = .slice (some ⟨X, 0, none⟩) zs.length cap /\ (c < OPEN -> cap = c) /\ (c = OPEN -> cap = y) := by
   rcases hu.slice_inv with ⟨q, x, y, h1, rfl⟩ | ⟨q1, q, x, y, h1, rfl⟩ | ⟨q, _⟩
   ·exact ⟨x, y, c, h1, rfl, fun _ => rfl, fun q2 => by omega⟩
   ·exact ⟨x, y, _, h1, rfl, fun q2 => by omega, fun q2 => by subst q2; omega⟩
   ·rcases hcap with ⟨q2, _⟩ | ⟨q2, _⟩ <;> omega
  obtain ⟨ob, hob, hOR⟩ := E.obj b X y _ hm hg;obtain ⟨cur, rfl, hNs, hcel, hop, hone⟩ := hOR;have hget : ∀ j, j < zs.length -> cur[j]? = (zs.map (Value.int .i64))[j]? := fun j hj => by
   have h1 := hz j hj;have e0 : (ints zs)[j]? = some (.int .i64 zs[j]) := by
    show (zs.map (Value.int .i64))[j]? = _;rw [List.getElem?_map, List.getElem?_eq_getElem hj]; rfl
   rw [e0] at h1;obtain ⟨v', h2, h3⟩ := hcel j _ h1;rw [h2, h3.int_inv, List.getElem?_map, List.getElem?_eq_getElem hj]; rfl
  have htake : cur.toList.take zs.length = zs.map (Value.int .i64) := by
   apply List.ext_getElem?
   intro j;by_cases hj : j < zs.length
   ·rw [List.getElem?_take_of_lt hj, Array.getElem?_toList]; exact hget j hj
   ·rw [List.getElem?_take_eq_none (by omega), List.getElem?_eq_none (by simp; omega)]
  have hcap2 : zs.length <= cap := by
   rcases hcap with ⟨q1, q2, q3⟩ | ⟨q1, q2⟩
   ·obtain ⟨x, y', k1, k2⟩ := hop q2
    rw [hm] at k1;cases k1;rw [hvr q1];rw [q3] at k2;omega
   ·rw [hcp q1]; exact q2
  refine CallsIn.mono ((callsIn_wide (n := 0)).2 (h.1 X cap zs cur e w hob htake (by omega) hcap2 hbig)) (fun x w' he => ?_);obtain ⟨rfl, hgr, cur', hw', hs', hcu⟩ := he;have hzl : (ints (rsZ zs)).length = zs.length := by rw [ints_len, rsZ_len]
  obtain ⟨hE, hB⟩ := E.rowW (h' := h') (tr' := tr') hm hg hh hob hw' hs' hgr (fun j v hj => by
   rw [htr] at hj;by_cases q : j < zs.length
   ·rw [if_pos ⟨Nat.zero_le _, by omega⟩, Nat.sub_zero] at hj
    have e0 : (ints (rsZ zs))[j]? = ((rsZ zs).map (Value.int .i64))[j]? := rfl;have hin : v ∈ ints (rsZ zs) := List.mem_of_getElem? hj;obtain ⟨z, _, rfl⟩ := List.mem_map.1 hin;exact ⟨⟨_, by rw [hcu, if_pos q, <- e0]; exact hj, by simp only [VR]⟩, rfl, by omega⟩
   ·rw [if_neg (fun k => q (by have := k.2; omega))] at hj
    obtain ⟨v', k1, k2⟩ := hcel j v hj;exact ⟨⟨v', by rw [hcu, if_neg q]; exact k1, k2⟩, hone j v hj⟩)
  refine ⟨_, _, m, hk6, Mp.le_refl m, hE, hB, ?_⟩;simp only [VR];refine ⟨trivial, ?_⟩;rcases hcap with ⟨q1, _⟩ | ⟨q1, _⟩
  ·rw [if_neg (by omega), if_pos (.inl q1)]
   exact ⟨X, y, hm, by rw [hvr q1, q1]; simp⟩
  ·rw [if_pos q1]
   exact ⟨X, y, hm, by rw [hcp q1]⟩
section
variable {P : Program} {C : Nat -> (CF -> Bool) -> Bool} {X : FuncId -> List Value -> St -> (Value -> St -> Bool) -> Bool} {s0 : St} {n nt : Nat} {env : List (Nat × Value)} {A : List Ob} {R : Value -> List Ob -> Prop}
def Rises (P : Program) (X : FuncId -> List Value -> St -> (Value -> St -> Bool) -> Bool) (g : Nat) : Prop := ∀ vs s k, RiseP P vs s k -> X g vs s k = true
theorem rises_or {Y : FuncId -> List Value -> St -> (Value -> St -> Bool) -> Bool} {g : Nat} : Rises P (orX Y (riseX P g)) g := fun vs s k h => by
 show (Y g vs s k || riseX P g g vs s k) = true;have : riseX P g g vs s k = true := by
  unfold riseX;exact @decide_eq_true _ (Classical.propDecidable _) ⟨rfl, h⟩
 rw [this, Bool.or_true]
theorem callX {g : Nat} {vs : List Value} {s : St} {k : Value -> St -> Bool} (h : X g vs s k = true) : (oracX P C X n).call g vs s k = true := by
 cases n with
 | zero => exact h
 | succ n =>
  show (X g vs s k || _) = true;rw [h]; rfl
theorem a_rise {f : Ev.X} {l : List Ev.X} {g b c e : Nat} {op : Bool} {zs : List Int} {A' : List Ob} (hX : Rises P X g) (hf : xv env f = some (.func (.func g) ⟨[]⟩ ⟨[]⟩)) (hl : xvs env l = some [.slice (some ⟨b, 0, none⟩) zs.length c]) (hu : Upd A b e op (ints zs) (ints (rsZ zs)) A') (hc : (c = OPEN /\ op = true /\ P.cellsOf e = 1) ∨ (c < OPEN /\ zs.length <= c)) (hb : zs.length * 8 <= 140737488355328)
 (h : R (.slice (some ⟨b, 0, none⟩) (rsn zs).length c) A') : OpA P C X s0 n nt (.call f l) env A R := .mk fun s hs =>
 o_call hf hl (fun k hk => callX (hX _ _ _ (.inr (by
  obtain ⟨cc, h1, h2, h3⟩ := hs.own hu.own;refine ⟨b, c, _, cc, e, op, zs, rfl, h1, by rw [ints_len]; exact Nat.le_refl _, fun j _ => h3 j, hc, hb, ?_⟩;have hzl : (ints (rsZ zs)).length = (ints zs).length := by rw [ints_len, ints_len, rsZ_len]
  refine putsK_of h2 (by omega) (fun c' hc' hg' => storeK_of hs.wf (Full.lt hs.wf h1) (fun s1 hm1 hn1 hd1 => ?_));refine hk _ _ ⟨A', hs.upd hu hm1 ⟨c', by rw [hzl]; exact hd1, by rw [hzl]; exact hc', fun j => ?_⟩, h⟩;rw [hg'];by_cases q : j < (ints (rsZ zs)).length
  ·rw [if_pos ⟨Nat.zero_le _, by omega⟩]; rfl
  ·rw [if_neg (fun k => q (by have := k.2; omega)), h3, List.getElem?_eq_none (by omega), List.getElem?_eq_none (by omega)]))))
theorem a_rise0 {f : Ev.X} {l : List Ev.X} {g : Nat} (hX : Rises P X g) (hf : xv env f = some (.func (.func g) ⟨[]⟩ ⟨[]⟩)) (hl : xvs env l = some [.slice none 0 0]) (h : R (.slice none 0 0) A) : OpA P C X s0 n nt (.call f l) env A R := .mk fun s hs =>
 o_call hf hl (fun k hk => callX (hX _ _ _ (.inl ⟨rfl, hk _ _ ⟨A, hs, h⟩⟩)))
end
end
end Go.Proofs.Ytoeklhdklcpllaa.Ev
