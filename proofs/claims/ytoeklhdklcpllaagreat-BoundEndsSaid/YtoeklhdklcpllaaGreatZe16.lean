import Derived.Test.YtoeklhdklcpllaaGreatZe15
import Derived.Test.YtoeklhdklcpllaaGreatZe09
set_option linter.unusedVariables false
set_option linter.unusedSimpArgs false
namespace Go.Proofs.YtoeklhdklcpllaaGreat
open Go Go.RowKit
namespace Ev
def NG (w : List Int) : List Int := w.map (fun x => -x)
theorem ng_len {w : List Int} : (NG w).length = w.length := List.length_map ..
theorem ng_get {w : List Int} {i : Nat} : (NG w).getD i 0 = -(w.getD i 0) := by
 unfold NG;rw [List.getD_eq_getElem?_getD, List.getD_eq_getElem?_getD, List.getElem?_map];cases w[i]? <;> rfl
def Ngd (l w : List Int) (k : Nat) : Prop := w.length = l.length /\ ∀ i, i < k -> w.getD i 0 = -(l.getD i 0)
theorem Ngd.step {l w : List Int} {k : Nat} (h : Ngd l w k) (hk : k < l.length) : Ngd l (w.set k (-(l.getD k 0))) (k + 1) := by
 refine ⟨by rw [List.length_set]; exact h.1, fun i hi => ?_⟩;rw [getD_set (by rw [h.1]; exact hk)];by_cases q : k = i
 ·rw [if_pos q, q]
 ·rw [if_neg q]; exact h.2 i (by omega)
theorem Ngd.eq {l w : List Int} (h : Ngd l w l.length) : w = NG l := by
 refine List.ext_getElem? (fun j => ?_);by_cases hj : j < l.length
 ·have h1 := h.2 j hj
  rw [<- ng_get] at h1;rw [List.getElem?_eq_getElem (by rw [h.1]; exact hj), List.getElem?_eq_getElem (by rw [ng_len]; exact hj)];rw [List.getD_eq_getElem?_getD, List.getD_eq_getElem?_getD, List.getElem?_eq_getElem (by rw [h.1]; exact hj), List.getElem?_eq_getElem (by rw [ng_len]; exact hj)] at h1;exact congrArg some h1
 ·rw [List.getElem?_eq_none (by rw [h.1]; omega), List.getElem?_eq_none (by rw [ng_len]; omega)]
theorem wok_at {w : List Int} (h : WOk w w.length) {i : Nat} (hi : i < w.length) : -3600000000000 <= w.getD i 0 /\ w.getD i 0 <= 3600000000000 := by
 have h1 := h i hi;have h2 := szs_pos (w := w) (k := i);have h3 : szs w i + max (w.getD i 0) (-(w.getD i 0)) <= 3600000000000 := h1;omega
theorem ng_szs {w : List Int} : ∀ {k : Nat}, szs (NG w) k = szs w k
 | 0 => rfl
 | k + 1 => by
  show szs (NG w) k + max ((NG w).getD k 0) (-((NG w).getD k 0)) = szs w k + max (w.getD k 0) (-(w.getD k 0));rw [ng_szs, ng_get]; omega
theorem ng_wok {w : List Int} (h : WOk w w.length) : WOk (NG w) (NG w).length := fun k hk => by
 rw [ng_szs]; rw [ng_len] at hk; exact h k hk
theorem ng_fit {w : List Int} (h : WOk w w.length) : ∀ x ∈ NG w, -9223372036854775808 <= x /\ x < 9223372036854775808 := fun x hx => by
 obtain ⟨j, hj, e⟩ := List.mem_iff_getElem.1 hx;rw [ng_len] at hj;have h1 := wok_at h hj;have h2 : (NG w).getD j 0 = x := by rw [List.getD_eq_getElem?_getD, List.getElem?_eq_getElem (by rw [ng_len]; exact hj), e]; rfl
 rw [ng_get] at h2;omega
section
variable {X : FuncId -> List Value -> St -> (Value -> St -> Bool) -> Bool}
theorem turned_s (n : Nat) (aw : Option Addr) (cw : Nat) (w : List Int) (s : St) (hs : Wf s) (hn : 281474976710656 <= n) (hW : IntsE s aw w) (hb : ∀ i, i < w.length -> -1000000000000000 <= w.getD i 0 /\ w.getD i 0 <= 1000000000000000) (h64 : w.length <= 100000) : Spec Tryz.prog (tabK tabw) X (n + 400) 89 [.slice aw w.length cw] s (fun v A => ∃ b, v = .slice (some ⟨b, 0, none⟩) w.length w.length /\ A = [.row b 3 false (ints (NG w))]) := by
 refine enter bw89_at rfl hs ?_;unfold bw89;have hlen := hW.len;refine rS (kM J J (Q0 (rS (kM J J (kO J (a_lenx J hW.spot (kO J (a_mksI (m := 0) (c := w.length) J J (by omega) (by omega) (by omega) (fun b1 => (kM J J (Q0 (rQ (rS (kM J J (kO J (a_lenx J hW.spot (kM J J (Q0 (Z1 (Z5 (fun j e A => ∃ (k : Nat) (w9 : List Int), e = [(3, .slice (some ⟨b1, 0, none⟩) k w.length), (9, .slice aw w.length cw), (10, .int .i64 (w.length : Int)), (11, .int .i64 (k : Int))] /\ A = (.row b1 3 false (ints w9) :: []) /\ j = w.length - k /\ k <= w.length /\ Ngd w w9 k) 200 0 281474976710656 ?_ (j := _) (env2 := _) (A2 := _) ?_ ?_ ?_ ?_ ⟨0, List.replicate w.length 0, rfl, rfl, rfl, Nat.zero_le _, ⟨by simp, fun i hi => absurd hi (Nat.not_lt_zero i)⟩⟩))))))))))))))))))))
 rotate_left
 ·omega
 ·omega
 ·exact (lc 3 J (lc 9 J (lc 10 J (lc 11 J Less.nil))))
 ·exact (.q .slnil)
 rintro n hn j _ _ ⟨k, w9, rfl, rfl, rfl, hk, hw⟩;have hwl9 := hw.1;refine rS (kO J (Q6 J J (fun h2 => ?_) (fun h2 => ?_)))
 ·refine Q0 (rQ (Y0 J (W1 (W0 (rQ (Z1 (rS (kO J (Q8 (j := k) hW rfl rfl (by omega) (by first | rfl | omega) (by omega) (fun _ _ a3 => ?_))))))))))
  have hbk := hb k (by omega);refine kO J (W7 J (hW.at a3 (by omega)) (kM J J (Q0 (rI (kM J J (kM J J (kO J (a_neg J (by omega) (kO J (a_lit J J J (fun b4 => (kO J (a_appc J J (Src.own .here rfl (by simp)) (.next .here) (by rw [ints_len]; omega) (by omega) (by show _ < 18446744073709551616; omega) (by omega) (by omega) (kM J J (Q0 (V1 (W0 (rI (kO J (Q4 J J (by omega) (kM J J (Q0 (W0 ?_)))))))))))))))))))))));exact ⟨rfl, _, _, _, (show w.length - (k + 1) < w.length - k by omega), (lc 3 J (lc 9 J (lc 10 J (lc 11 J Less.nil)))), (.cons _ (.q .slnil)), ⟨k + 1, _, rfl, (by show [Ob.row _ _ _ (over (ints w9) (k * 1) [.int .i64 _])] = _; rw [over_ints (by omega)]), rfl, by omega, (hw.step (by omega))⟩⟩
 ·refine Q0 (rQ (U0 J (W5 (W3 (W3 (U3 (W0 (rS (kM J J (kM J J (Q0 (Z3 ?_))))))))))))
  have hkl : k = w.length := by omega
  subst hkl;rw [hw.eq];exact end1A J (.q .slnil) ⟨_, rfl, rfl⟩
theorem solve_n (n : Nat) (m : Int) (al : Option Addr) (cl : Nat) (ls : List (List Int)) (aw : Option Addr) (cw nw : Nat) (w : List Int) (s : St) (hs : Wf s) (hn : 6755399441055744 <= n) (hL : RowsE s 4 al ls) (hcl : al = none -> cl = 0) (hW : IntsE s aw w) (hnw : nw = w.length) (hCap : CapOk s aw w.length cw) : Spec Tryz.prog (tabK tabw) X (n + 9500) 36 [.agg ⟨[.int .i64 m, .slice al ls.length cl]⟩, .slice aw nw cw] s (fun v A => (¬ sysE m ls = 0 /\ v = .tuple #[.pointer none, .int .i64 (sysE m ls)] /\ A = []) ∨ (sysE m ls = 0 /\ ¬ ((w.length : Int) = m + 1 /\ WOk w w.length) /\ v = .tuple #[.pointer none, .int .i64 27] /\ A = []) ∨ (sysE m ls = 0 /\ ((w.length : Int) = m + 1 /\ WOk w w.length) /\ Uns ls (m.toNat + 1) /\ v = .tuple #[.pointer none, .int .i64 23] /\ A = []) ∨ (sysE m ls = 0 /\ ((w.length : Int) = m + 1 /\ WOk w w.length) /\ ¬ Uns ls (m.toNat + 1) /\ Opn ls (m.toNat + 1) (du0 w m.toNat) /\ v = .tuple #[.pointer none, .int .i64 22] /\ A = []) ∨ (sysE m ls = 0 /\ ((w.length : Int) = m + 1 /\ WOk w w.length) /\ ¬ Uns ls (m.toNat + 1) /\ ∃ t p, Opt ls (m.toNat + 1) (du0 w m.toNat) t p /\ (∀ i, i < ls.length -> t i <= 3600000000000) /\ tot t ls.length <= 230400000000000 /\ (∀ v, v < m.toNat + 1 -> -1300000 <= p v /\ p v <= 30000000) /\ ∃ b bt bn O B, v = .tuple #[.pointer (some ⟨b, 0, none⟩), .int .i64 0] /\ A = nobj B (nl ls ls.length) O ++ [.row b 104 false [.int .i64 m, .slice al ls.length cl, .slice (some ⟨bt, 0, none⟩) ls.length ls.length, .slice (some ⟨bn, 0, none⟩) (m.toNat + 1) (m.toNat + 1)], .row bn 25 false (nsl B (nl ls ls.length) (m.toNat + 1)), .row bt 3 false (ints (xs t ls.length))] /\ NO O (m.toNat + 1) (nl ls ls.length))) := by
 subst hnw;exact solve_s n m al cl ls aw cw w s hs hn hL hcl hW hCap
set_option maxRecDepth 100000 in
theorem Range_s (n : Nat) (m : Int) (al : Option Addr) (cl : Nat) (ls : List (List Int)) (aw : Option Addr) (cw : Nat) (w : List Int) (s : St) (hs : Wf s) (hn : 7318349394477056 <= n) (hL : RowsE s 4 al ls) (hcl : al = none -> cl = 0) (hW : IntsE s aw w) (hCap : CapOk s aw w.length cw) : Spec Tryz.prog (tabK tabw) X (n + 11000) 9 [.agg ⟨[.int .i64 m, .slice al ls.length cl]⟩, .slice aw w.length cw] s (fun v A => (∃ e, (e = sysE m ls ∨ e = 27 ∨ e = 23) /\ ¬ e = 0 /\ (sysE m ls = 0 -> ((w.length : Int) = m + 1 /\ WOk w w.length) -> e = 23 /\ Uns ls (m.toNat + 1)) /\ (¬ sysE m ls = 0 -> e = sysE m ls) /\ (sysE m ls = 0 -> ¬ ((w.length : Int) = m + 1 /\ WOk w w.length) -> e = 27) /\ v = .tuple #[.int .i64 0, .int .i64 0, .int .i64 e] /\ A = []) ∨ (sysE m ls = 0 /\ ((w.length : Int) = m + 1 /\ WOk w w.length) /\ ¬ Uns ls (m.toNat + 1) /\ (Opn ls (m.toNat + 1) (du0 w m.toNat) ∨ Opn ls (m.toNat + 1) (du0 (NG w) m.toNat)) /\ v = .tuple #[.int .i64 0, .int .i64 0, .int .i64 22] /\ A = []) ∨ (sysE m ls = 0 /\ ((w.length : Int) = m + 1 /\ WOk w w.length) /\ ¬ Uns ls (m.toNat + 1) /\ ∃ t p t2 p2, Opt ls (m.toNat + 1) (du0 w m.toNat) t p /\ Opt ls (m.toNat + 1) (du0 (NG w) m.toNat) t2 p2 /\ tot t ls.length <= 230400000000000 /\ tot t2 ls.length <= 230400000000000 /\ v = .tuple #[.int .i64 (-(tot (fun i => t2 i * lw ls i) ls.length)), .int .i64 (tot (fun i => t i * lw ls i) ls.length), .int .i64 0] /\ A = [])) := by
 refine enter bw9_at rfl hs ?_;unfold bw9;have hlen := hL.len;have hlenW := hW.len;refine rS (kO J (a_box J J J (fun b1 => (kM J J (kM J J (kM J J (Q0 (rS (kO J (U5 J (by decide) .here rfl (kM J J (kG J J (a_inl J J bw41_at rfl ?_)))))))))))));unfold bw41;refine rS (kO J (a_box J J J (fun b2 => (kM J J (kM J J (kM J J (Q0 (rS (kO J (U5 J (by decide) .here rfl (kM J J (kO J (Y5 J J (fun s1 h1 => solve_s _ m al cl ls aw cw w s1 h1.wf (by omega) (hL.ext hs h1.2.1) hcl (hW.ext hs h1.2.1) (hCap.ext hs h1.2.1)) (fun v1 A1 q1 => ?_))))))))))))));rcases q1 with ⟨hsx, rfl, rfl⟩ | ⟨hsys, hww, rfl, rfl⟩ | ⟨hsys, hww, hun, rfl, rfl⟩ | ⟨hsys, hww, hnu, hop, rfl, rfl⟩ | ⟨hsys, hww, hnu, q1⟩
 ·have hsx9 := hsx
  refine kM J J (kO J (W2 J J (kO J (W2 J J (kM J J (kM J J (Q0 (rQ (rS (kM J J (kO J (Z4 J J (fun h6 => ?_) (fun h6 => ?_)))))))))))))
  ·refine Q0 (Y0 J (rS (kM J J (kM J J (kM J J (kM J J (Q0 (Z3 (V3 (endD3A J J J .nil (.refl _) (kM J J (kO J (W2 J J (kO J (W2 J J (kO J (W2 J J (kM J J (kM J J (kM J J (Q0 (rQ (rS (kM J J (kO J (Z4 J J (fun h7 => ?_) (fun h7 => ?_)))))))))))))))))))))))))))
   ·refine Q0 (Y0 J (rS (kM J J (kM J J (kM J J (kM J J (Q0 (Z3 (V3 ?_)))))))))
    exact end3A J J J (List.nil_sublist _) (.inl ⟨_, .inl rfl, hsx, fun q => absurd q hsx, fun _ => rfl, fun q => absurd q hsx, rfl, rfl⟩)
   ·exfalso; omega
  ·exfalso; omega
 ·have hww9 := hww
  refine kM J J (kO J (W2 J J (kO J (W2 J J (kM J J (kM J J (Q0 (rQ (rS (kM J J (kO J (Z4 J J (fun _ => (Q0 (Y0 J (rS (kM J J (kM J J (kM J J (kM J J (Q0 (Z3 (V3 (endD3A J J J .nil (.refl _) (kM J J (kO J (W2 J J (kO J (W2 J J ?_))))))))))))))))) (fun h => absurd h (by decide))))))))))))));refine kO J (W2 J J (kM J J (kM J J (kM J J (Q0 (rQ (rS (kM J J (kO J (Z4 J J (fun _ => (Q0 (Y0 J (rS (kM J J (kM J J (kM J J (kM J J (Q0 (Z3 (V3 ?_))))))))))) (fun h => absurd h (by decide))))))))))));exact end3A J J J (List.nil_sublist _) (.inl ⟨27, .inr (.inl rfl), by decide, fun _ q => absurd q hww, fun q => absurd hsys q, fun _ _ => rfl, rfl, rfl⟩)
 ·have hun9 := hun
  refine kM J J (kO J (W2 J J (kO J (W2 J J (kM J J (kM J J (Q0 (rQ (rS (kM J J (kO J (Z4 J J (fun _ => (Q0 (Y0 J (rS (kM J J (kM J J (kM J J (kM J J (Q0 (Z3 (V3 (endD3A J J J .nil (.refl _) (kM J J (kO J (W2 J J (kO J (W2 J J ?_))))))))))))))))) (fun h => absurd h (by decide))))))))))))));refine kO J (W2 J J (kM J J (kM J J (kM J J (Q0 (rQ (rS (kM J J (kO J (Z4 J J (fun _ => (Q0 (Y0 J (rS (kM J J (kM J J (kM J J (kM J J (Q0 (Z3 (V3 ?_))))))))))) (fun h => absurd h (by decide))))))))))));exact end3A J J J (List.nil_sublist _) (.inl ⟨23, .inr (.inr rfl), by decide, fun _ _ => ⟨rfl, hun⟩, fun q => absurd hsys q, fun _ q => absurd hww q, rfl, rfl⟩)
 ·have hop9 := hop
  refine kM J J (kO J (W2 J J (kO J (W2 J J (kM J J (kM J J (Q0 (rQ (rS (kM J J (kO J (Z4 J J (fun _ => (Q0 (Y0 J (rS (kM J J (kM J J (kM J J (kM J J (Q0 (Z3 (V3 (endD3A J J J .nil (.refl _) (kM J J (kO J (W2 J J (kO J (W2 J J ?_))))))))))))))))) (fun h => absurd h (by decide))))))))))))));refine kO J (W2 J J (kM J J (kM J J (kM J J (Q0 (rQ (rS (kM J J (kO J (Z4 J J (fun _ => (Q0 (Y0 J (rS (kM J J (kM J J (kM J J (kM J J (Q0 (Z3 (V3 ?_))))))))))) (fun h => absurd h (by decide))))))))))));exact end3A J J J (List.nil_sublist _) (.inr (.inl ⟨hsys, (by first | exact hww1 | exact hww), (by first | exact hnu1 | exact hnu), (by first | exact .inl hop | exact .inr hop), rfl, rfl⟩))
 ·obtain ⟨hm0, hM, h400, hlm⟩ := sysE_ok hsys
  obtain ⟨M, rfl⟩ : ∃ q : Nat, m = (q : Int) := ⟨m.toNat, by omega⟩;obtain ⟨t, p, hOp, htb, hts, hpb, bf3, bt4, bn5, O, B, rfl, rfl, hO⟩ := q1;rw [Int.toNat_natCast, List.append_assoc, List.cons_append, List.cons_append, List.cons_append, List.nil_append];have hMM := hM;change Opt ls (M + 1) (du0 w M) t p at hOp;change ∀ v, v < M + 1 -> _ at hpb;have hwl : w.length = M + 1 := by omega
  have hww1 := hww;have hnu1 := hnu;refine kM J J (kO J (W2 J J (kO J (W2 J J (kM J J (kM J J (Q0 (rQ (rS (kM J J (kO J (Z4 J J (fun h => absurd h (by decide)) (fun _ => (Q0 (U0 J (W1 (W0 (rS (kO J (U5 J (by decide) (.app (.next (.next (.next .here)))) J (kM J J (kO J (Y5 J J (fun s1 h1 => turned_s _ aw cw w s1 h1.wf (by omega) (hW.ext hs h1.2.1) (fun i hi => by have := wok_at hww.2 hi; omega) (by omega)) (fun v1 A1 q1 => ?_))))))))))))))))))))))));obtain ⟨bg15, rfl, rfl⟩ := q1;rw [List.singleton_append];refine kZ J (a_againa J J (by decide) (.next (.app (.next (.next (.next .here))))) J (by simp [eqL, eqV, eqA, kindEq, intEq_eq, V6 hL.spot, V6 hW.spot]) (kO J (Y5 J J (fun s1 h1 => solve_n _ (M : Int) al cl ls _ _ _ (NG w) s1 h1.wf (by omega) (hL.ext hs h1.2.1) hcl (IntsE.own (h1.own .here) (ng_fit hww.2) (by rw [ng_len]; omega)) ng_len.symm (.inl ⟨by show _ < 18446744073709551616; omega, by rw [ng_len]; omega⟩)) (fun v1 A1 q1 => ?_))));rcases q1 with ⟨hsx, rfl, rfl⟩ | ⟨hsys, hww, rfl, rfl⟩ | ⟨hsys, hww, hun, rfl, rfl⟩ | ⟨hsys, hww, hnu, hop, rfl, rfl⟩ | ⟨hsys, hww, hnu, q1⟩
  ·exact absurd hsys hsx
  ·exact absurd ⟨by rw [ng_len]; exact hww1.1, ng_wok hww1.2⟩ hww
  ·exact absurd hun hnu1
  ·have hop92 := hop
   refine kM J J (kO J (W2 J J (kO J (W2 J J (kM J J (kM J J (Q0 (rQ (rS (kM J J (kO J (Z4 J J (fun _ => (Q0 (Y0 J (rS (kM J J (kM J J (kM J J (kM J J (Q0 (Z3 (V3 (endD3A J J J .nil (.refl _) (kM J J (kO J (W2 J J (kO J (W2 J J ?_))))))))))))))))) (fun h => absurd h (by decide))))))))))))));refine kO J (W2 J J (kM J J (kM J J (kM J J (Q0 (rQ (rS (kM J J (kO J (Z4 J J (fun _ => (Q0 (Y0 J (rS (kM J J (kM J J (kM J J (kM J J (Q0 (Z3 (V3 ?_))))))))))) (fun h => absurd h (by decide))))))))))));exact end3A J J J (List.nil_sublist _) (.inr (.inl ⟨hsys, (by first | exact hww1 | exact hww), (by first | exact hnu1 | exact hnu), (by first | exact .inl hop | exact .inr hop), rfl, rfl⟩))
  ·obtain ⟨t2, p2, hOp2, htb2, hts2, hpb2, bf16, bt17, bn18, O2, B2, rfl, rfl, hO2⟩ := q1
   rw [Int.toNat_natCast, List.append_assoc, List.cons_append, List.cons_append, List.cons_append, List.nil_append];have hMM2 := hM;refine kM J J (kO J (W2 J J (kO J (W2 J J (kM J J (kM J J (Q0 (rQ (rS (kM J J (kO J (Z4 J J (fun h => absurd h (by decide)) (fun _ => (Q0 (U0 J (W1 (W0 (rS (kM J J (kM J J (kM J J (kM J J (kM J J (Q0 (Z3 (endD3A J J J .nil (.refl _) (kM J J ?_)))))))))))))))))))))))))));refine kO J (W2 J J (kO J (W2 J J (kO J (W2 J J (kM J J (kM J J (kM J J (Q0 (rQ (rS (kM J J (kO J (Z4 J J (fun h => absurd h (by decide)) (fun _ => (Q0 (U0 J (W1 (W0 (rS (kM J J (kG J J (a_inl J J bw37_at rfl ?_)))))))))))))))))))))));unfold bw37;refine rS (kM J J (Q0 (rS (kM J J (Q0 (rQ (rS (kM J J (kO J (Q5 J (kO J (U2 J (kO J (U2 J (kO J (U1 J (.app .here) J (kO J (a_lenx J hL.spot (kM J J (Q0 (Z1 ?_)))))))))))))))))))));refine Z5 (fun j e A => ∃ (k : Nat), e = [(0, .pointer (some ⟨bf16, 0, none⟩)), (3, .int .i64 (tot (fun i => t2 i * lw ls i) k)), (10, .slice al ls.length cl), (11, .int .i64 (ls.length : Int)), (12, .int .i64 (k : Int))] /\ A = (nobj B2 (nl ls ls.length) O2 ++ (.row bf16 104 false ([.int .i64 (M : Int), .slice al ls.length cl, .slice (some ⟨bt17, 0, none⟩) ls.length ls.length, .slice (some ⟨bn18, 0, none⟩) (M + 1) (M + 1)]) :: (.row bn18 25 false (nsl B2 (nl ls ls.length) (M + 1)) :: (.row bt17 3 false (ints (xs t2 ls.length)) :: (nobj B (nl ls ls.length) O ++ (.row bf3 104 false ([.int .i64 (M : Int), .slice al ls.length cl, .slice (some ⟨bt4, 0, none⟩) ls.length ls.length, .slice (some ⟨bn5, 0, none⟩) (M + 1) (M + 1)]) :: (.row bn5 25 false (nsl B (nl ls ls.length) (M + 1)) :: (.row bt4 3 false (ints (xs t ls.length)) :: [])))))))) /\ j = ls.length - k /\ k <= ls.length) 200 0 281474976710656 ?_ (j := _) (env2 := _) (A2 := _) ?_ ?_ ?_ ?_ ⟨0, rfl, rfl, rfl, Nat.zero_le _⟩
   rotate_left
   ·omega
   ·omega
   ·exact (lc 0 J (lc 3 J (lc 10 J (lc 11 J (lc 12 J Less.nil)))))
   ·exact (.r (.q (.q (.q (.cons _ (.r (.q (.q (.q (.cons _ (.cons _ .slnil)))))))))))
   rintro n hn j _ _ ⟨k, rfl, rfl, rfl, hk⟩;refine rS (kO J (Q6 J J (fun h23 => ?_) (fun h23 => ?_)))
   ·obtain ⟨q4, o4, y0, y1, y2, y3, ahL, hx, hat, i0, i1, i2, i3⟩ := hL.row4 (k := k) (by omega)
    have hat2 := hat;obtain ⟨d0, d1, d2, d3, _⟩ := hat2;have := i0.lo; have := i0.hi;have := i1.lo; have := i1.hi;have := i2.lo; have := i2.hi;have := i3.lo; have := i3.hi;have hlw9 := lw_row hx;have hsr9 := sum_rng hlm hOp2 hts2 (show k < ls.length by omega);rw [hlw9] at hsr9;refine Q0 (rQ (Y0 J (W1 (W0 (rQ (Z1 (rS (kM J J (kO J (a_iaA (j := k) ahL rfl rfl (by first | rfl | omega) (by first | decide | omega) (kO J (a_ldar J (by decide) (by assumption) J (kO J (a_new J J (fun b24 => (kM J J (kZ J (Q7 J J .here rfl rfl rfl rfl (Q0 (rI (kM J J (kM J J (kO J (Q5 J (kO J (U2 J (kO J (U1 J (.next (.app .here)) J (kM J J (kO J (Y4 (j := k) J J (by omega) (by omega) (kO J (V5 (x := (t2) (k)) J (.next (.app (.next (.next .here)))) (by rw [W4]; omega) (V4 (by omega)) ?_)))))))))))))))))))))))))))))))));refine kO J (U2 J (kO J (U1 J .here rfl (kO J (a_mul J J (by omega) (kO J (Q4 J J (by omega) (kM J J (Q0 (V1 (W0 (rI (kO J (Q4 J J (by omega) (kM J J (Q0 (W0 ?_)))))))))))))))));exact ⟨rfl, _, _, _, (show ls.length - (k + 1) < ls.length - k by omega), (lc 0 J (lc 3 (by show some (Value.int .i64 (_ + t2 k * y2)) = some (Value.int .i64 (tot (fun i => t2 i * lw ls i) k + t2 k * lw ls k)); rw [hlw9]) (lc 10 J (lc 11 J (lc 12 J Less.nil))))), (.cons _ (.r (.q (.q (.q (.r (.q (.q (.q .slnil))))))))), ⟨k + 1, rfl, rfl, rfl, by omega⟩⟩
   ·have hkl : k = ls.length := by omega
    subst hkl;refine Q0 (rQ (U0 J (W5 (W3 (W3 (U3 (W0 (rS (kM J J (kM J J (Q0 (Z3 (endD1 J .nil ?_)))))))))))));have hsa2 := sum_all hlm hOp2 hts2;refine kO J (a_neg J (by omega) (kM J J (kG J J (a_inl J J bw37_at rfl ?_))));unfold bw37;refine rS (kM J J (Q0 (rS (kM J J (Q0 (rQ (rS (kM J J (kO J (Q5 J (kO J (U2 J (kO J (U2 J (kO J (U1 J (.app (.next (.next (.next (.app .here))))) J (kO J (a_lenx J hL.spot (kM J J (Q0 (Z1 ?_)))))))))))))))))))));refine Z5 (fun j e A => ∃ (k : Nat), e = [(0, .pointer (some ⟨bf3, 0, none⟩)), (3, .int .i64 (tot (fun i => t i * lw ls i) k)), (10, .slice al ls.length cl), (11, .int .i64 (ls.length : Int)), (12, .int .i64 (k : Int))] /\ A = (nobj B2 (nl ls ls.length) O2 ++ (.row bf16 104 false ([.int .i64 (M : Int), .slice al ls.length cl, .slice (some ⟨bt17, 0, none⟩) ls.length ls.length, .slice (some ⟨bn18, 0, none⟩) (M + 1) (M + 1)]) :: (.row bn18 25 false (nsl B2 (nl ls ls.length) (M + 1)) :: (.row bt17 3 false (ints (xs t2 ls.length)) :: (nobj B (nl ls ls.length) O ++ (.row bf3 104 false ([.int .i64 (M : Int), .slice al ls.length cl, .slice (some ⟨bt4, 0, none⟩) ls.length ls.length, .slice (some ⟨bn5, 0, none⟩) (M + 1) (M + 1)]) :: (.row bn5 25 false (nsl B (nl ls ls.length) (M + 1)) :: (.row bt4 3 false (ints (xs t ls.length)) :: [])))))))) /\ j = ls.length - k /\ k <= ls.length) 200 0 281474976710656 ?_ (j := _) (env2 := _) (A2 := _) ?_ ?_ ?_ ?_ ⟨0, rfl, rfl, rfl, Nat.zero_le _⟩
    rotate_left
    ·omega
    ·omega
    ·exact (lc 0 J (lc 3 J (lc 10 J (lc 11 J (lc 12 J Less.nil)))))
    ·exact (.r (.q (.q (.q (.r (.q (.q (.q .slnil))))))))
    rintro n hn j _ _ ⟨k, rfl, rfl, rfl, hk⟩;refine rS (kO J (Q6 J J (fun h25 => ?_) (fun h25 => ?_)))
    ·obtain ⟨q4, o4, y0, y1, y2, y3, ahL, hx, hat, i0, i1, i2, i3⟩ := hL.row4 (k := k) (by omega)
     have hat2 := hat;obtain ⟨d0, d1, d2, d3, _⟩ := hat2;have := i0.lo; have := i0.hi;have := i1.lo; have := i1.hi;have := i2.lo; have := i2.hi;have := i3.lo; have := i3.hi;have hlw9 := lw_row hx;have hsr9 := sum_rng hlm hOp hts (show k < ls.length by omega);rw [hlw9] at hsr9;refine Q0 (rQ (Y0 J (W1 (W0 (rQ (Z1 (rS (kM J J (kO J (a_iaA (j := k) ahL rfl rfl (by first | rfl | omega) (by first | decide | omega) (kO J (a_ldar J (by decide) (by assumption) J (kO J (a_new J J (fun b26 => (kM J J (kZ J (Q7 J J .here rfl rfl rfl rfl (Q0 (rI (kM J J (kM J J (kO J (Q5 J (kO J (U2 J (kO J (U1 J (.next (.app (.next (.next (.next (.app .here)))))) J (kM J J (kO J (Y4 (j := k) J J (by omega) (by omega) (kO J (V5 (x := (t) (k)) J (.next (.app (.next (.next (.next (.app (.next (.next .here)))))))) (by rw [W4]; omega) (V4 (by omega)) ?_)))))))))))))))))))))))))))))))));refine kO J (U2 J (kO J (U1 J .here rfl (kO J (a_mul J J (by omega) (kO J (Q4 J J (by omega) (kM J J (Q0 (V1 (W0 (rI (kO J (Q4 J J (by omega) (kM J J (Q0 (W0 ?_)))))))))))))))));exact ⟨rfl, _, _, _, (show ls.length - (k + 1) < ls.length - k by omega), (lc 0 J (lc 3 (by show some (Value.int .i64 (_ + t k * y2)) = some (Value.int .i64 (tot (fun i => t i * lw ls i) k + t k * lw ls k)); rw [hlw9]) (lc 10 J (lc 11 J (lc 12 J Less.nil))))), (.cons _ (.r (.q (.q (.q (.r (.q (.q (.q .slnil))))))))), ⟨k + 1, rfl, rfl, rfl, by omega⟩⟩
    ·have hkl : k = ls.length := by omega
     subst hkl;refine Q0 (rQ (U0 J (W5 (W3 (W3 (U3 (W0 (rS (kM J J (kM J J (Q0 (Z3 (endD1 J .nil (kM J J (kM J J (kM J J (Q0 (Z3 ?_))))))))))))))))));exact end3A J J J (List.nil_sublist _) (.inr (.inr ⟨hsys, hww1, hnu1, t, p, t2, p2, hOp, hOp2, hts, hts2, rfl, rfl⟩))
end
theorem RowsE.row2 {s : St} {a : Option Addr} {rs : List (List Int)} (h : RowsE s 2 a rs) {k : Nat} (hk : k < rs.length) : ∃ b o z0 z1, a = some ⟨b, o, none⟩ /\ rs[k]? = some [z0, z1] /\ Ats s b (o + k * 2) [.int .i64 z0, .int .i64 z1] /\ I64 z0 /\ I64 z1 := by
 obtain ⟨b, o, r, h1, h2, h3, h4, h5⟩ := h.row hk;obtain ⟨z0, r1, rfl, g1⟩ := list_len_succ h3;obtain ⟨z1, r2, rfl, g2⟩ := list_len_succ g1;have : r2 = [] := List.eq_nil_of_length_eq_zero g2;subst this;exact ⟨b, o, z0, z1, h1, h2, h4, h5 z0 (by simp), h5 z1 (by simp)⟩
def pf (us : List (List Int)) (k : Nat) : Nat := ((us.getD k []).getD 0 0).toNat
def pn (us : List (List Int)) (k : Nat) : Int := (us.getD k []).getD 1 0
def bef (us : List (List Int)) : Nat -> Int
 | 0 => -1
 | k + 1 => (us.getD k []).getD 0 0
def umis (ls us : List (List Int)) (m : Nat -> Int) : Nat -> Nat -> Int
 | 0 => m
 | k + 1 => Z2 (Z2 (umis ls us m k) (lb ls (pf us k)) (umis ls us m k (lb ls (pf us k)) - pn us k)) (la ls (pf us k)) (Z2 (umis ls us m k) (lb ls (pf us k)) (umis ls us m k (lb ls (pf us k)) - pn us k) (la ls (pf us k)) + pn us k)
def uz (ls us : List (List Int)) (j : Nat) : Int := lw ls (pf us j)
def UkP (ls us : List (List Int)) (k : Nat) : Prop := ∀ j, j < k -> (bef us j + 1 <= (us.getD j []).getD 0 0 /\ (us.getD j []).getD 0 0 <= (ls.length : Int) - 1) /\ (1 <= pn us j /\ pn us j <= 3600000000000) /\ tot (pn us) (j + 1) <= 230400000000000
def AdP (ls us : List (List Int)) (w : List Int) (M : Nat) (bd : Int) : Prop := UkP ls us us.length /\ tot (fun j => pn us j * uz ls us j) us.length = bd /\ ∀ v, 1 <= v -> v < M + 1 -> umis ls us (fun v => w.getD v 0) us.length v = 0
theorem UkP.bef {ls us : List (List Int)} : ∀ {k : Nat}, UkP ls us k -> -1 <= Ev.bef us k /\ Ev.bef us k <= max (-1) ((ls.length : Int) - 1)
 | 0, _ => ⟨Int.le_refl _, by show (-1 : Int) <= _; omega⟩
 | k + 1, h => by
  have h1 := UkP.bef (k := k) (fun j hj => h j (by omega));have h2 := (h k (by omega)).1;show -1 <= (us.getD k []).getD 0 0 /\ (us.getD k []).getD 0 0 <= _;omega
theorem UkP.nn {ls us : List (List Int)} {k : Nat} (h : UkP ls us k) : ∀ j, j < k -> 0 <= pn us j := fun j hj => by have := (h j hj).2.1; omega
theorem UkP.tot {ls us : List (List Int)} : ∀ {k : Nat}, UkP ls us k -> 0 <= Ev.tot (pn us) k /\ Ev.tot (pn us) k <= 230400000000000
 | 0, _ => ⟨Int.le_refl _, by show (0 : Int) <= _; decide⟩
 | k + 1, h => ⟨tot_nn h.nn, (h k (by omega)).2.2⟩
theorem um_bd {ls us : List (List Int)} {m : Nat -> Int} {N : Nat} (hm : ∀ v, v < N -> -3600000000000 <= m v /\ m v <= 3600000000000) : ∀ {k : Nat}, UkP ls us k -> ∀ v, v < N -> -3600000000000 - 2 * Ev.tot (pn us) k <= umis ls us m k v /\ umis ls us m k v <= 3600000000000 + 2 * Ev.tot (pn us) k
 | 0, _, v, hv => by have := hm v hv; show -3600000000000 - 2 * (0 : Int) <= m v /\ m v <= 3600000000000 + 2 * 0; omega
 | k + 1, h, v, hv => by
  have ih := um_bd hm (k := k) (fun j hj => h j (by omega));have h2 := (h k (by omega)).2.1;have a0 := ih v hv;show -3600000000000 - 2 * (Ev.tot (pn us) k + pn us k) <= Z2 _ _ _ v /\ Z2 _ _ _ v <= 3600000000000 + 2 * (Ev.tot (pn us) k + pn us k);by_cases e1 : v = la ls (pf us k)
  ·rw [e1] at a0
   rw [e1, V2];by_cases e2 : la ls (pf us k) = lb ls (pf us k)
   ·rw [e2] at a0
    rw [e2, V2]; omega
   ·rw [Q1 e2]; omega
  ·rw [Q1 e1]
   by_cases e2 : v = lb ls (pf us k)
   ·rw [e2] at a0
    rw [e2, V2]; omega
   ·rw [Q1 e2]; omega
theorem us_bd {ls us : List (List Int)} {M : Nat} (hl : lmB (M : Int) ls = true) : ∀ {k : Nat}, UkP ls us k -> -(20000 * Ev.tot (pn us) k) <= Ev.tot (fun j => pn us j * uz ls us j) k /\ Ev.tot (fun j => pn us j * uz ls us j) k <= 20000 * Ev.tot (pn us) k
 | k, h => sum_bd (t := pn us) (z := uz ls us) (K := k) (Nat.le_refl k) h.nn (fun j hj => by
  have h1 := (h j hj).1;have h2 := (UkP.bef (k := j) (fun i hi => h i (by omega))).1;exact lw_bd' hl (show pf us j < ls.length by unfold pf; omega))
theorem u_row {us : List (List Int)} {k : Nat} {z0 z1 : Int} (h : us[k]? = some [z0, z1]) : (us.getD k []).getD 0 0 = z0 /\ pn us k = z1 := by
 have e : us.getD k [] = [z0, z1] := by rw [List.getD_eq_getElem?_getD, h]; rfl
 unfold pn;rw [e]; exact ⟨rfl, rfl⟩
theorem u_pf {us : List (List Int)} {k li : Nat} {z1 : Int} (h : us[k]? = some [(li : Int), z1]) : pf us k = li := by
 unfold pf;rw [(u_row h).1]; exact Int.toNat_natCast li
section
variable {X : FuncId -> List Value -> St -> (Value -> St -> Bool) -> Bool}
end
theorem um_net {ls us : List (List Int)} {m : Nat -> Int} {v : Nat} : ∀ {k : Nat}, (∀ j, j < k -> la ls (pf us j) ≠ lb ls (pf us j)) -> umis ls us m k v = m v - tot (fun j => (if lb ls (pf us j) = v then pn us j else 0) - (if la ls (pf us j) = v then pn us j else 0)) k
 | 0, _ => by show m v = m v - 0; omega
 | k + 1, h => by
  have ih := um_net (m := m) (v := v) (k := k) (fun j hj => h j (by omega));have hne := h k (by omega);show Z2 _ _ _ v = m v - (tot _ k + ((if lb ls (pf us k) = v then pn us k else 0) - (if la ls (pf us k) = v then pn us k else 0)));by_cases e1 : v = la ls (pf us k)
  ·rw [if_pos e1.symm, if_neg (fun q => hne (by rw [<- e1, q])), e1, V2, Q1 hne]
   rw [e1] at ih;omega
  ·rw [Q1 e1, if_neg (show ¬ la ls (pf us k) = v from fun q => e1 q.symm)]
   by_cases e2 : v = lb ls (pf us k)
   ·rw [if_pos e2.symm, e2, V2]
    rw [e2] at ih;omega
   ·rw [Q1 e2, if_neg (show ¬ lb ls (pf us k) = v from fun q => e2 q.symm)]; omega
theorem net_sum {ls : List (List Int)} {t : Nat -> Int} {v : Nat} : ∀ {K : Nat}, net ls t K v = tot (fun i => t i * ((if lb ls i = v then 1 else 0) - (if la ls i = v then 1 else 0))) K
 | 0 => rfl
 | K + 1 => by
  show net ls t K v + _ = tot _ K + t K * _;rw [net_sum (K := K)]
  congr 1
  split <;> split <;> simp
section
variable {X : FuncId -> List Value -> St -> (Value -> St -> Bool) -> Bool}
end
def ulL (t : Nat -> Int) : Nat -> List (List Int)
 | 0 => []
 | k + 1 => if 0 < t k then ulL t k ++ [[(k : Int), t k]] else ulL t k
theorem ap_old {U : List (List Int)} {x : List Int} {j : Nat} (h : j < U.length) : (U ++ [x]).getD j [] = U.getD j [] := by
 rw [List.getD_eq_getElem?_getD, List.getElem?_append_left h, <- List.getD_eq_getElem?_getD]
theorem ap_new {U : List (List Int)} {x : List Int} : (U ++ [x]).getD U.length [] = x := by
 rw [List.getD_eq_getElem?_getD, List.getElem?_append_right (Nat.le_refl _), Nat.sub_self]; rfl
theorem ap_pf {U : List (List Int)} {x : List Int} {j : Nat} (h : j < U.length) : pf (U ++ [x]) j = pf U j /\ pn (U ++ [x]) j = pn U j := by
 unfold pf pn;rw [ap_old h]; exact ⟨rfl, rfl⟩
theorem ap_bef {U : List (List Int)} {x : List Int} : ∀ {j : Nat}, j <= U.length -> bef (U ++ [x]) j = bef U j
 | 0, _ => rfl
 | j + 1, h => by
  show ((U ++ [x]).getD j []).getD 0 0 = (U.getD j []).getD 0 0;rw [ap_old (by omega)]
theorem ul_sum {F : Nat -> Int -> Int} {t : Nat -> Int} (hF : ∀ i, F i 0 = 0) : ∀ {k : Nat}, (∀ i, i < k -> 0 <= t i) -> tot (fun j => F (pf (ulL t k) j) (pn (ulL t k) j)) (ulL t k).length = tot (fun i => F i (t i)) k
 | 0, _ => rfl
 | k + 1, h => by
  have ih := ul_sum hF (t := t) (k := k) (fun i hi => h i (by omega));show _ = tot (fun i => F i (t i)) k + F k (t k);by_cases c : 0 < t k
  ·rw [show ulL t (k + 1) = ulL t k ++ [[(k : Int), t k]] from if_pos c, List.length_append]
   show tot _ (ulL t k).length + F (pf _ (ulL t k).length) (pn _ (ulL t k).length) = _;rw [U6 (g := fun j => F (pf (ulL t k) j) (pn (ulL t k) j)) (fun j hj => by rw [(ap_pf hj).1, (ap_pf hj).2]), ih]
   congr 1
   have e1 : pf (ulL t k ++ [[(k : Int), t k]]) (ulL t k).length = k := by
    unfold pf;rw [ap_new]; exact Int.toNat_natCast k
   have e2 : pn (ulL t k ++ [[(k : Int), t k]]) (ulL t k).length = t k := by
    unfold pn;rw [ap_new]; rfl
   rw [e1, e2]
  ·rw [show ulL t (k + 1) = ulL t k from if_neg c, ih, show t k = 0 from by have := h k (by omega); omega, hF]; omega
theorem ul_uk {ls : List (List Int)} {t : Nat -> Int} (ht : ∀ i, i < ls.length -> 0 <= t i /\ t i <= 3600000000000) (hs : tot t ls.length <= 230400000000000) : ∀ {k : Nat}, k <= ls.length -> UkP ls (ulL t k) (ulL t k).length /\ bef (ulL t k) (ulL t k).length <= (k : Int) - 1 /\ (ulL t k).length <= k
 | 0, _ => ⟨fun j hj => absurd hj (Nat.not_lt_zero j), by show (-1 : Int) <= _; omega, Nat.le_refl _⟩
 | k + 1, hk => by
  obtain ⟨i1, i2, i3⟩ := ul_uk ht hs (k := k) (by omega);by_cases c : 0 < t k
  ·rw [show ulL t (k + 1) = ulL t k ++ [[(k : Int), t k]] from if_pos c, List.length_append]
   have e1 : ((ulL t k ++ [[(k : Int), t k]]).getD (ulL t k).length []).getD 0 0 = (k : Int) := by rw [ap_new]; rfl
   have e2 : pn (ulL t k ++ [[(k : Int), t k]]) (ulL t k).length = t k := by
    unfold pn;rw [ap_new]; rfl
   have e3 : ∀ j, j <= (ulL t k).length -> tot (pn (ulL t k ++ [[(k : Int), t k]])) j = tot (pn (ulL t k)) j := fun j hj => U6 (fun i hi => (ap_pf (by omega)).2)
   have e4 := ul_sum (F := fun _ n => n) (t := t) (fun _ => rfl) (k := k) (fun i hi => (ht i (by omega)).1);have e4 : tot (pn (ulL t k)) (ulL t k).length = tot t k := e4;have e5 := tot_part (f := t) (K0 := k + 1) (K := ls.length) hk (fun i hi => (ht i hi).1);have e5 : tot t k + t k <= tot t ls.length := e5;refine ⟨fun j hj => ?_, ?_, by show (ulL t k).length + 1 <= _; omega⟩
   ·have hj : j < (ulL t k).length + 1 := hj
    by_cases e : j = (ulL t k).length
    ·subst e
     rw [e1, e2, ap_bef (Nat.le_refl _)];refine ⟨by omega, by have := ht k (by omega); omega, ?_⟩;show tot (pn (ulL t k ++ [[(k : Int), t k]])) (ulL t k).length + pn (ulL t k ++ [[(k : Int), t k]]) (ulL t k).length <= _;rw [e2, e3 _ (Nat.le_refl _), e4]; omega
    ·have h1 := i1 j (by omega)
     rw [ap_bef (by omega), ap_old (by omega), (ap_pf (x := [(k : Int), t k]) (show j < (ulL t k).length by omega)).2, e3 (j + 1) (by omega)];exact h1
   ·show ((ulL t k ++ [[(k : Int), t k]]).getD (ulL t k).length []).getD 0 0 <= _
    rw [e1]; omega
  ·rw [show ulL t (k + 1) = ulL t k from if_neg c]
   exact ⟨i1, by omega, by omega⟩
theorem ul_ad {ls : List (List Int)} {M : Nat} {w : List Int} {t p : Nat -> Int} (hg : Lg M ls) (h : Opt ls (M + 1) (du0 w M) t p) (ht : ∀ i, i < ls.length -> t i <= 3600000000000) (hs : tot t ls.length <= 230400000000000) : AdP ls (ulL t ls.length) w M (tot (fun i => t i * lw ls i) ls.length) /\ (ulL t ls.length).length <= ls.length := by
 obtain ⟨i1, i2, i3⟩ := ul_uk (ls := ls) (t := t) (fun i hi => ⟨h.nn i hi, ht i hi⟩) hs (Nat.le_refl _);have hpf : ∀ j, j < (ulL t ls.length).length -> pf (ulL t ls.length) j < ls.length := fun j hj => by
  have a1 := (i1 j hj).1;have a2 := (UkP.bef (k := j) (fun i hi => i1 i (by omega))).1;unfold pf; omega
 refine ⟨⟨i1, ?_, fun v h1 h2 => ?_⟩, i3⟩
 ·exact ul_sum (F := fun i n => n * lw ls i) (t := t) (fun _ => Int.zero_mul _) h.nn
 ·rw [um_net (fun j hj => (hg _ (hpf j hj)).2.2.1)]
  have e1 := ul_sum (F := fun i n => (if lb ls i = v then n else 0) - (if la ls i = v then n else 0)) (t := t) (fun i => by split <;> split <;> rfl) (k := ls.length) h.nn;have e2 := h.nt v h2;rw [net_sum] at e2;have e3 : tot (fun i => t i * ((if lb ls i = v then 1 else 0) - (if la ls i = v then 1 else 0))) ls.length = tot (fun i => (if lb ls i = v then t i else 0) - (if la ls i = v then t i else 0)) ls.length := U6 (fun i _ => by
   rw [Int.mul_sub]
   congr 1
   ·split <;> simp
   ·split <;> simp)
  rw [e3] at e2;have e4 : du0 w M v = w.getD v 0 := Q1 (x := fun v => w.getD v 0) (z := 0 - pw w M) (by omega);have e5 : tot (fun j => (if lb ls (pf (ulL t ls.length) j) = v then pn (ulL t ls.length) j else 0) - (if la ls (pf (ulL t ls.length) j) = v then pn (ulL t ls.length) j else 0)) (ulL t ls.length).length = tot (fun i => (if lb ls i = v then t i else 0) - (if la ls i = v then t i else 0)) ls.length := e1;rw [e5, e2, e4];show w.getD v 0 - w.getD v 0 = 0;omega
section
variable {X : FuncId -> List Value -> St -> (Value -> St -> Bool) -> Bool}
end
def dt (w x : List Int) : Nat -> Int
 | 0 => 0
 | k + 1 => dt w x k + w.getD k 0 * x.getD k 0
theorem prod_bd {a b c : Int} (h : -c <= b /\ b <= c) (hc : 0 <= c) : -(c * max a (-a)) <= a * b /\ a * b <= c * max a (-a) := by
 rcases Int.lt_or_le a 0 with q | q
 ·rw [Int.max_eq_right (by omega)]
  have h1 := Int.mul_le_mul_of_nonneg_left h.1 (show 0 <= -a by omega);have h2 := Int.mul_le_mul_of_nonneg_left h.2 (show 0 <= -a by omega);rw [Int.neg_mul, Int.neg_mul, Int.mul_neg] at h1;rw [Int.neg_mul, Int.neg_mul] at h2;rw [Int.mul_neg, Int.mul_comm c a];omega
 ·rw [Int.max_eq_left (by omega)]
  have h1 := Int.mul_le_mul_of_nonneg_left h.1 q;have h2 := Int.mul_le_mul_of_nonneg_left h.2 q;rw [Int.mul_neg] at h1;rw [Int.mul_comm c a];omega
theorem dt_bd {w x : List Int} {n : Nat} (hx : inB (-1280000) 1280000 x = true) (hn : n <= x.length) : ∀ {k : Nat}, k <= n -> -(1280000 * szs w k) <= dt w x k /\ dt w x k <= 1280000 * szs w k
 | 0, _ => ⟨by show -(1280000 * (0 : Int)) <= 0; decide, by show (0 : Int) <= 1280000 * 0; decide⟩
 | k + 1, hk => by
  have ih := dt_bd hx hn (w := w) (k := k) (by omega);have h1 := in_all hx (k := k) (by omega);have h2 := prod_bd (a := w.getD k 0) h1 (by decide);show -(1280000 * (szs w k + max (w.getD k 0) (-(w.getD k 0)))) <= dt w x k + w.getD k 0 * x.getD k 0 /\ dt w x k + w.getD k 0 * x.getD k 0 <= 1280000 * (szs w k + max (w.getD k 0) (-(w.getD k 0)));omega
theorem dt_bd2 {w x : List Int} {n : Nat} (hx : ∀ k, k < n -> -1280000 <= x.getD k 0 /\ x.getD k 0 <= 1280000) : ∀ {k : Nat}, k <= n -> -(1280000 * szs w k) <= dt w x k /\ dt w x k <= 1280000 * szs w k
 | 0, _ => ⟨by show -(1280000 * (0 : Int)) <= 0; decide, by show (0 : Int) <= 1280000 * 0; decide⟩
 | k + 1, hk => by
  have ih := dt_bd2 hx (w := w) (k := k) (by omega);have h1 := hx k (by omega);have h2 := prod_bd (a := w.getD k 0) h1 (by decide);show -(1280000 * (szs w k + max (w.getD k 0) (-(w.getD k 0)))) <= dt w x k + w.getD k 0 * x.getD k 0 /\ dt w x k + w.getD k 0 * x.getD k 0 <= 1280000 * (szs w k + max (w.getD k 0) (-(w.getD k 0)));omega
theorem in_upto {lo hi : Int} {l : List Int} {k : Nat} (h : ∀ u, u < k -> lo <= l.getD u 0 /\ l.getD u 0 <= hi) (hk : l.length <= k) : inB lo hi l = true := by
 refine List.all_eq_true.2 (fun z hz => ?_);obtain ⟨i, hi', rfl⟩ := List.getElem_of_mem hz;have h4 := h i (by omega);rw [List.getD_eq_getElem?_getD, List.getElem?_eq_getElem hi'] at h4;exact decide_eq_true h4
theorem in_not {lo hi : Int} {l : List Int} {k : Nat} (hk : k < l.length) (h : ¬ (lo <= l.getD k 0 /\ l.getD k 0 <= hi)) : ¬ inB lo hi l = true := fun q => h (in_all q hk)
theorem up_step {lo hi : Int} {l : List Int} {k : Nat} (h : ∀ u, u < k -> lo <= l.getD u 0 /\ l.getD u 0 <= hi) (h2 : lo <= l.getD k 0 /\ l.getD k 0 <= hi) : ∀ u, u < k + 1 -> lo <= l.getD u 0 /\ l.getD u 0 <= hi := fun u hu => by
 by_cases q : u = k
 ·subst q; exact h2
 ·exact h u (by omega)
def VP1 (w : List Int) : Prop := w.length <= 65 /\ WOk w w.length
def VP2 (w x : List Int) : Prop := x.length = w.length /\ inB (-1280000) 1280000 x = true
noncomputable def vc (w x : List Int) : Int := @ite _ (VP1 w) (Classical.propDecidable _) (@ite _ (VP2 w x) (Classical.propDecidable _) 0 25) 27
noncomputable def vv (w x : List Int) : Int := @ite _ (VP1 w) (Classical.propDecidable _) (@ite _ (VP2 w x) (Classical.propDecidable _) (dt w x w.length) 0) 0
theorem v_27 {w x : List Int} (h : ¬ VP1 w) : Value.tuple #[.int .i64 0, .int .i64 27] = .tuple #[.int .i64 (vv w x), .int .i64 (vc w x)] := by unfold vv vc; rw [if_neg h, if_neg h]
theorem v_25 {w x : List Int} (h : VP1 w) (h2 : ¬ VP2 w x) : Value.tuple #[.int .i64 0, .int .i64 25] = .tuple #[.int .i64 (vv w x), .int .i64 (vc w x)] := by unfold vv vc; rw [if_pos h, if_pos h, if_neg h2, if_neg h2]
theorem v_0 {w x : List Int} (h : VP1 w) (h2 : VP2 w x) : Value.tuple #[.int .i64 (dt w x w.length), .int .i64 0] = .tuple #[.int .i64 (vv w x), .int .i64 (vc w x)] := by unfold vv vc; rw [if_pos h, if_pos h, if_pos h2, if_pos h2]
section
variable {X : FuncId -> List Value -> St -> (Value -> St -> Bool) -> Bool}
theorem sized_s (n : Nat) (aw : Option Addr) (cw : Nat) (w : List Int) (s : St) (hs : Wf s) (hn : 281474976710656 <= n) (hW : IntsE s aw w) : Spec Tryz.prog (tabK tabw) X (n + 300) 91 [.slice aw w.length cw] s (fun v A => ((WOk w w.length /\ v = .bool true) ∨ (¬ WOk w w.length /\ v = .bool false)) /\ A = []) := by
 refine enter bw91_at rfl hs ?_;unfold bw91;have hlen := hW.len;refine rS (kM J J (Q0 (rS (kM J J (Q0 (rQ (rS (kM J J (kO J (a_lenx J hW.spot (kM J J (Q0 (Z1 (Z5 (fun j e A => ∃ (k : Nat), e = [(3, .int .i64 (szs w k)), (6, .slice aw w.length cw), (7, .int .i64 (w.length : Int)), (8, .int .i64 (k : Int))] /\ A = [] /\ j = w.length - k /\ k <= w.length /\ WOk w k) 200 0 281474976710656 ?_ (j := _) (env2 := _) (A2 := _) ?_ ?_ ?_ ?_ ⟨0, rfl, rfl, rfl, Nat.zero_le _, wok_zero⟩))))))))))))))
 rotate_left
 ·omega
 ·omega
 ·exact (lc 3 J (lc 6 J (lc 7 J (lc 8 J Less.nil))))
 ·exact .slnil
 rintro n hn j _ _ ⟨k, rfl, rfl, rfl, hk, hw⟩;have hz1 := szs_pos (w := w) (k := k);have hz2 := wok_le hw (Nat.le_refl k);refine rS (kO J (Q6 J J (fun h1 => ?_) (fun h1 => ?_)))
 ·have hin := hW.in k
  refine Q0 (rQ (Y0 J (W1 (W0 (rQ (Z1 (rS (kO J (Q8 (j := k) hW rfl rfl (by omega) (by first | rfl | omega) (by omega) (fun _ _ a2 => (kO J (W7 J (hW.at a2 (by omega)) (kM J J (Q0 (rQ (rS (kM J J (kO J (Q6 J J (fun h3 => ?_) (fun h3 => ?_))))))))))))))))))))
  ·refine kM J J (V0 J J (V0 J J (kO J (Q3 J J J (Q0 (Y0 J (rS (kM J J (Q0 (Z3 (V3 (Y7 (V3 (V3 (Y7 (V3 ?_))))))))))))))))
   exact end1 J ⟨.inr ⟨wok_no (k := k) (by omega) (by omega), rfl⟩, rfl⟩
  ·refine kM J J (kG J J (Y3 J (kG J J (a_gtr J J (fun h4 => ?_) (fun h4 => ?_)))))
   ·refine kO J (Q2 J J J (Q0 (Y0 J (rS (kM J J (Q0 (Z3 (V3 (Y7 (V3 (V3 (Y7 (V3 ?_)))))))))))))
    exact end1 J ⟨.inr ⟨wok_no (k := k) (by omega) (by omega), rfl⟩, rfl⟩
   ·refine kO J (Q2 J J J (Q0 (U0 J (W1 (W0 (rS (kM J J (kM J J (kM J J (kO J (a_neg J (by omega) (kO J (a_max J (kO J (Q4 J J (by omega) (kM J J (Q0 (rS (kM J J (kO J (a_gtr J J (fun h5 => ?_) (fun h5 => ?_))))))))))))))))))))))
    ·refine Q0 (Y0 J (rS (kM J J (Q0 (Z3 (Y7 (V3 (V3 (Y7 (V3 ?_))))))))))
     exact end1 J ⟨.inr ⟨wok_no (k := k) (by omega) (by omega), rfl⟩, rfl⟩
    ·refine Q0 (U0 J (W1 (V1 (W0 (rI (kO J (Q4 J J (by omega) (kM J J (Q0 (W0 ?_))))))))))
     exact ⟨rfl, _, _, _, (show w.length - (k + 1) < w.length - k by omega), (lc 3 J (lc 6 J (lc 7 J (lc 8 J Less.nil)))), .slnil, ⟨k + 1, rfl, rfl, rfl, by omega, (wok_step hw (by omega))⟩⟩
 ·refine Q0 (rQ (U0 J (W5 (W3 (W3 (U3 (W0 (rS (kM J J (Q0 (Z3 ?_)))))))))))
  have hkw : k = w.length := by omega
  subst hkw;exact end1 J ⟨.inl ⟨hw, rfl⟩, rfl⟩
theorem rValue_s (n : Nat) (aw : Option Addr) (cw : Nat) (w : List Int) (ax : Option Addr) (cx : Nat) (x : List Int) (s : St) (hs : Wf s) (hn : 562949953421312 <= n) (hW : IntsE s aw w) (hX : IntsE s ax x) : Spec Tryz.prog (tabK tabw) X (n + 800) 47 [.slice aw w.length cw, .slice ax x.length cx] s (fun v A => v = .tuple #[.int .i64 (vv w x), .int .i64 (vc w x)] /\ A = []) := by
 refine enter bw47_at rfl hs ?_;unfold bw47;have hlen := hW.len;have hlenX := hX.len;refine rS (kM J J (kM J J (Q0 (rQ (rS (kM J J (kO J (a_lenx J hW.spot (kO J (a_gtr J J (fun h1 => ?_) (fun h1 => ?_)))))))))))
 ·have hno : ¬ VP1 w := fun q => by have := q.1; omega
  refine kM J J (V0 J J (V0 J J (V0 J J (kO J (Q3 J J J (Q0 (Y0 J (rS (kM J J (kM J J (Q0 (Z3 (V3 ?_)))))))))))));exact end2 J J ⟨v_27 hno, rfl⟩
 ·refine kM J J (kG J J (Y3 J (kG J J (Y5 J J (fun s1 h1 => sized_s _ _ _ _ s1 h1.wf (by omega) (hW.ext hs h1.2.1)) (fun v1 A1 q1 => ?_)))))
  obtain ⟨q1, rfl⟩ := q1;rcases q1 with ⟨hwo, rfl⟩ | ⟨hwo, rfl⟩
  ·have hwo1 := hwo
   refine kG J J (U7 J (kO J (Q2 J J J (Q0 (U0 J (W1 (W0 (rQ (rS (kM J J (kO J (a_lenx J hX.spot (kM J J (kO J (a_lenx J hW.spot (kO J (Z4 J J (fun h2 => ?_) (fun h2 => ?_))))))))))))))))))
   ·have hno2 : ¬ VP2 w x := fun q => by have := q.1; omega
    refine Q0 (Y0 J (rS (kM J J (kM J J (Q0 (Z3 (V3 ?_)))))));exact end2 J J ⟨v_25 ⟨by omega, hwo1⟩ hno2, rfl⟩
   ·refine Q0 (U0 J (W1 (W0 (rS (kM J J (Q0 (rQ (rS (kM J J (kO J (a_lenx J hX.spot (kM J J (Q0 (Z1 (Z5 (fun j e A => ∃ (k : Nat), e = [(0, .slice aw w.length cw), (1, .slice ax x.length cx), (6, .int .i64 (dt w x k)), (22, .slice ax x.length cx), (23, .int .i64 (x.length : Int)), (24, .int .i64 (k : Int))] /\ A = [] /\ j = w.length - k /\ k <= w.length /\ ∀ u, u < k -> -1280000 <= x.getD u 0 /\ x.getD u 0 <= 1280000) 200 0 281474976710656 ?_ (j := _) (env2 := _) (A2 := _) ?_ ?_ ?_ ?_ ⟨0, rfl, rfl, rfl, Nat.zero_le _, (fun u hu => absurd hu (Nat.not_lt_zero u))⟩)))))))))))))))
    rotate_left
    ·omega
    ·omega
    ·exact (lc 0 J (lc 1 J (lc 6 J (lc 22 J (lc 23 J (lc 24 J Less.nil))))))
    ·exact .slnil
    rintro n hn j _ _ ⟨k, rfl, rfl, rfl, hk, hup⟩;refine rS (kO J (Q6 J J (fun h3 => ?_) (fun h3 => ?_)))
    ·refine Q0 (rQ (Y0 J (W1 (W0 (rQ (Z1 (rS (kM J J (kO J (Q8 (j := k) hX rfl rfl (by omega) (by first | rfl | omega) (by omega) (fun _ _ a4 => (kO J (W7 J (hX.at a4 (by omega)) (kM J J (kM J J (Q0 (rQ (rS (kM J J (kO J (a_callB J J (fun s1 h1 => rwithin_s _ _ _ _ s1 h1.wf) (fun h5 => ?_) (fun h5 => ?_))))))))))))))))))))))
     ·have hpb := prod_bd (a := w.getD k 0) (b := x.getD k 0) (c := 1280000) (by omega) (by decide)
      have hz1 := szs_pos (w := w) (k := k);have hz2 := wok_le hwo1 (k := k + 1) (by omega);change szs w k + max (w.getD k 0) (-(w.getD k 0)) <= _ at hz2;have hdb := dt_bd2 (w := w) hup (Nat.le_refl k);refine kO J (U7 J (Q0 (U0 J (W1 (W0 (rI (kM J J (kM J J (kM J J (kO J (Q8 (j := k) hW rfl rfl (by omega) (by first | rfl | omega) (by omega) (fun _ _ a6 => (kO J (W7 J (hW.at a6 (by omega)) (kM J J (kO J (a_mul J J (by omega) (kO J (Q4 J J (by omega) (kM J J (Q0 (V1 (W0 (rI (kO J (Q4 J J (by omega) (kM J J (Q0 (W0 ?_)))))))))))))))))))))))))))));exact ⟨rfl, _, _, _, (show w.length - (k + 1) < w.length - k by omega), (lc 0 J (lc 1 J (lc 6 J (lc 22 J (lc 23 J (lc 24 J Less.nil)))))), .slnil, ⟨k + 1, rfl, rfl, rfl, by omega, (up_step hup (by omega))⟩⟩
     ·have hno2 : ¬ VP2 w x := fun q => in_not (k := k) (by omega) h5 q.2
      refine kO J (U7 J (Q0 (Y0 J (rS (kM J J (kM J J (Q0 (Z3 (V3 (Y7 (V3 (V3 (Y7 (V3 ?_))))))))))))));exact end2 J J ⟨v_25 ⟨by omega, hwo1⟩ hno2, rfl⟩
    ·have hyes : VP2 w x := ⟨by omega, in_upto hup (by omega)⟩
     refine Q0 (rQ (U0 J (W5 (W3 (W3 (U3 (W0 (rS (kM J J (kM J J (kM J J (Q0 (Z3 ?_)))))))))))));have hkw : k = w.length := by omega
     subst hkw;exact end2 J J ⟨v_0 ⟨by omega, hwo1⟩ hyes, rfl⟩
  ·have hno : ¬ VP1 w := fun q => hwo q.2
   refine kG J J (U7 J (kO J (Q2 J J J (Q0 (Y0 J (rS (kM J J (kM J J (Q0 (Z3 (V3 ?_)))))))))));exact end2 J J ⟨v_27 hno, rfl⟩
end
theorem endDc1 {s0 : St} {env : List (Nat × Value)} {D : List Nat} {A : List Ob} {a b o m e : Nat} {op : Bool} {l r : List Value} {Q : Value -> List Ob -> Prop} {A2 : List Ob} (ha : look env a = some (.pointer (some ⟨b, o, none⟩))) (h0 : m ≠ 0) (hd : DelD A D A2) (ho : Own A2 b e op l) (hv : segL l o m = some r) (hq : Q (.agg ⟨r⟩) A2) : EndD s0 [.cell a (some m)] Q .ret env D A :=
 ⟨A2, [.agg ⟨r⟩], A2, hd, ⟨b, o, r, [], rfl, ha, h0, ⟨e, op, l, ho, hv⟩, rfl⟩, List.Sublist.refl _, hq⟩
theorem endc2A {s0 : St} {env : List (Nat × Value)} {A A' : List Ob} {a u b o m e : Nat} {op : Bool} {l r : List Value} {w : Value} {Q : Value -> List Ob -> Prop} (ha : look env a = some (.pointer (some ⟨b, o, none⟩))) (h0 : m ≠ 0) (hs : A'.Sublist A) (ho : Own A b e op l) (hv : segL l o m = some r) (hu : look env u = some w) (hq : Q (.tuple #[.agg ⟨r⟩, w]) A') : EndA s0 [.cell a (some m), .tmp u] Q .ret env [] A :=
 ⟨rfl, [.agg ⟨r⟩, w], A', ⟨b, o, r, [w], rfl, ha, h0, ⟨e, op, l, ho, hv⟩, w, [], rfl, hu, rfl⟩, hs, hq⟩
def UlOk (TU : Nat) (a : Option Addr) (n c : Nat) (l : List Value) (UL : List Ob) : Prop := (a = none /\ n = 0 /\ c = 0 /\ l = [] /\ UL = []) ∨ ∃ b op, a = some ⟨b, 0, none⟩ /\ 0 < n /\ l.length = n * 2 /\ Tight op n c /\ UL = [.row b TU op l]
theorem a_appU {P : Program} {C : Nat -> (CF -> Bool) -> Bool} {X : FuncId -> List Value -> St -> (Value -> St -> Bool) -> Bool} {s0 : St} {n nt : Nat} {env : List (Nat × Value)} {A A1 A2 UL : List Ob} {R : Value -> List Ob -> Prop} {TU k c : Nat} {a : Option Addr} {l more z : List Value} {x y : Ev.X} {yv : Value} (hU : UlOk TU a k c l UL) (hA : A = A1 ++ (UL ++ A2)) (hx : xv env x = some (.slice a k c)) (hy : xv env y = some yv) (hsrc : Src s0 A 2 1 more yv) (hm : (1 : Nat) ≠ 0) (hb1 : k + 1 <= 1048576) (hb2 : 16 * (k + 1) <= 1073741824)
 (h : ∀ b, R (.slice (some ⟨b, 0, none⟩) (k + 1) OPEN) (.row b TU true (l ++ more) :: (A1 ++ A2))) : OpA P C X s0 n nt (.app TU 2 16 z false x y) env A R := by
 rcases hU with ⟨rfl, rfl, rfl, rfl, rfl⟩ | ⟨b, op, rfl, h0, hl, ht, rfl⟩
 ·subst hA
  exact a_appn hx hy hsrc hm (by omega) (by omega) (fun b => by have := h b; exact this)
 ·subst hA
  have hd : Del (A1 ++ ([.row b TU op l] ++ A2)) b TU op l (A1 ++ A2) := by
   clear hsrc h
   induction A1 with
   | nil => exact .here
   | cons q A1 ih => exact .next ih
  exact a_app hx hy hsrc hd hl ht hm (by omega) (by omega) h
def ulC (t : Nat -> Int) : Nat -> List Value
 | 0 => []
 | k + 1 => if 0 < t k then ulC t k ++ [.int .i64 (k : Int), .int .i64 (t k)] else ulC t k
theorem ul_yes {t : Nat -> Int} {k : Nat} (h : 0 < t k) : ulC t k ++ [.int .i64 (k : Int), .int .i64 (t k)] = ulC t (k + 1) := (if_pos h).symm
theorem ul_no {t : Nat -> Int} {k : Nat} (h : ¬ 0 < t k) : ulC t k = ulC t (k + 1) := (if_neg h).symm
theorem UlOk.len {TU : Nat} {a : Option Addr} {n c : Nat} {l : List Value} {UL : List Ob} (h : UlOk TU a n c l UL) : l.length = n * 2 := by
 rcases h with ⟨_, rfl, _, rfl, _⟩ | ⟨_, _, _, _, hl, _⟩
 ·rfl
 ·exact hl
section
variable {X : FuncId -> List Value -> St -> (Value -> St -> Bool) -> Bool}
set_option maxRecDepth 100000 in
theorem Prove_s (n : Nat) (m : Int) (al : Option Addr) (cl : Nat) (ls : List (List Int)) (aw : Option Addr) (cw : Nat) (w : List Int) (s : St) (hs : Wf s) (hn : 7318349394477056 <= n) (hL : RowsE s 4 al ls) (hcl : al = none -> cl = 0) (hW : IntsE s aw w) (hCap : CapOk s aw w.length cw) : Spec Tryz.prog (tabK tabw) X (n + 10500) 12 [.agg ⟨[.int .i64 m, .slice al ls.length cl]⟩, .slice aw w.length cw] s (fun v A => (¬ sysE m ls = 0 /\ v = .tuple #[.agg ⟨[.int .i64 0, .slice none 0 0]⟩, .int .i64 (sysE m ls)] /\ A = []) ∨ (sysE m ls = 0 /\ ¬ ((w.length : Int) = m + 1 /\ WOk w w.length) /\ v = .tuple #[.agg ⟨[.int .i64 0, .slice none 0 0]⟩, .int .i64 27] /\ A = []) ∨ (sysE m ls = 0 /\ ((w.length : Int) = m + 1 /\ WOk w w.length) /\ Uns ls (m.toNat + 1) /\ v = .tuple #[.agg ⟨[.int .i64 0, .slice none 0 0]⟩, .int .i64 23] /\ A = []) ∨ (sysE m ls = 0 /\ ((w.length : Int) = m + 1 /\ WOk w w.length) /\ ¬ Uns ls (m.toNat + 1) /\ Opn ls (m.toNat + 1) (du0 w m.toNat) /\ v = .tuple #[.agg ⟨[.int .i64 0, .slice none 0 0]⟩, .int .i64 22] /\ A = []) ∨ (sysE m ls = 0 /\ ((w.length : Int) = m + 1 /\ WOk w w.length) /\ ¬ Uns ls (m.toNat + 1) /\ ∃ t p a n c UL, Opt ls (m.toNat + 1) (du0 w m.toNat) t p /\ (∀ i, i < ls.length -> t i <= 3600000000000) /\ tot t ls.length <= 230400000000000 /\ v = .tuple #[.agg ⟨[.int .i64 (tot (fun i => t i * lw ls i) ls.length), .slice a n c]⟩, .int .i64 0] /\ A = UL /\ n <= ls.length /\ UlOk 76 a n c (ulC t ls.length) UL)) := by
 refine enter bw12_at rfl hs ?_;unfold bw12;have hlen := hL.len;have hlenW := hW.len;refine rS (kO J (a_box J J J (fun b1 => (kO J (a_new J J (fun b2 => (kM J J (Q0 (rS (kO J (U5 J (by decide) (.next .here) J (kM J J (kO J (Y5 J J (fun s1 h1 => solve_s _ m al cl ls aw cw w s1 h1.wf (by omega) (hL.ext hs h1.2.1) hcl (hW.ext hs h1.2.1) (hCap.ext hs h1.2.1)) (fun v1 A1 q1 => ?_)))))))))))))));rcases q1 with ⟨hsx, rfl, rfl⟩ | ⟨hsys, hww, rfl, rfl⟩ | ⟨hsys, hww, hun, rfl, rfl⟩ | ⟨hsys, hww, hnu, hop, rfl, rfl⟩ | ⟨hsys, hww, hnu, q1⟩
 ·have hsx9 := hsx
  refine kM J J (kO J (W2 J J (kO J (W2 J J (kM J J (kM J J (Q0 (rQ (rS (kM J J (kO J (Z4 J J (fun h6 => ?_) (fun h6 => ?_)))))))))))))
  ·refine Q0 (Y0 J (rS (kO J (Z7 J J (kM J J (kZ J (Q7 J J .here rfl rfl rfl rfl (kM J J (Q0 (Z3 (V3 ?_)))))))))))
   exact endc2A J (by decide) (List.nil_sublist _) .here rfl rfl (.inl ⟨hsx, rfl, rfl⟩)
  ·exfalso; omega
 ·have hww9 := hww
  refine kM J J (kO J (W2 J J (kO J (W2 J J (kM J J (kM J J (Q0 (rQ (rS (kM J J (kO J (Z4 J J (fun _ => (Q0 (Y0 J (rS (kO J (Z7 J J (kM J J (kZ J (Q7 J J .here rfl rfl rfl rfl (kM J J (Q0 (Z3 (V3 ?_))))))))))))) (fun h => absurd h (by decide))))))))))))));exact endc2A J (by decide) (List.nil_sublist _) .here rfl rfl (.inr (.inl ⟨hsys, hww, rfl, rfl⟩))
 ·have hun9 := hun
  refine kM J J (kO J (W2 J J (kO J (W2 J J (kM J J (kM J J (Q0 (rQ (rS (kM J J (kO J (Z4 J J (fun _ => (Q0 (Y0 J (rS (kO J (Z7 J J (kM J J (kZ J (Q7 J J .here rfl rfl rfl rfl (kM J J (Q0 (Z3 (V3 ?_))))))))))))) (fun h => absurd h (by decide))))))))))))));exact endc2A J (by decide) (List.nil_sublist _) .here rfl rfl (.inr (.inr (.inl ⟨hsys, hww, hun, rfl, rfl⟩)))
 ·have hop9 := hop
  refine kM J J (kO J (W2 J J (kO J (W2 J J (kM J J (kM J J (Q0 (rQ (rS (kM J J (kO J (Z4 J J (fun _ => (Q0 (Y0 J (rS (kO J (Z7 J J (kM J J (kZ J (Q7 J J .here rfl rfl rfl rfl (kM J J (Q0 (Z3 (V3 ?_))))))))))))) (fun h => absurd h (by decide))))))))))))));exact endc2A J (by decide) (List.nil_sublist _) .here rfl rfl (.inr (.inr (.inr (.inl ⟨hsys, hww, hnu, hop, rfl, rfl⟩))))
 ·obtain ⟨hm0, hM, h400, hlm⟩ := sysE_ok hsys
  obtain ⟨M, rfl⟩ : ∃ q : Nat, m = (q : Int) := ⟨m.toNat, by omega⟩;obtain ⟨t, p, hOp, htb, hts, hpb, bf3, bt4, bn5, O, B, rfl, rfl, hO⟩ := q1;rw [Int.toNat_natCast, List.append_assoc, List.cons_append, List.cons_append, List.cons_append, List.nil_append];have hMM := hM;change Opt ls (M + 1) (du0 w M) t p at hOp;change ∀ v, v < M + 1 -> _ at hpb;have hwl : w.length = M + 1 := by omega
  refine kM J J (kO J (W2 J J (kO J (W2 J J (kM J J (kM J J (Q0 (rQ (rS (kM J J (kO J (Z4 J J (fun h => absurd h (by decide)) (fun _ => (Q0 (U0 J (W1 (W0 (rS (kM J J (kG J J (a_inl J J bw44_at rfl ?_)))))))))))))))))))));unfold bw44;refine rS (kO J (a_new J J (fun b11 => (Q0 (rS (kM J J (kG J J (a_inl J J bw37_at rfl ?_))))))));unfold bw37;refine rS (kM J J (Q0 (rS (kM J J (Q0 (rQ (rS (kM J J (kO J (Q5 J (kO J (U2 J (kO J (U2 J (kO J (U1 J (.next (.app .here)) J (kO J (a_lenx J hL.spot (kM J J (Q0 (Z1 ?_)))))))))))))))))))));refine Z5 (fun j e A => ∃ (k : Nat), e = [(0, .pointer (some ⟨bf3, 0, none⟩)), (3, .int .i64 (tot (fun i => t i * lw ls i) k)), (10, .slice al ls.length cl), (11, .int .i64 (ls.length : Int)), (12, .int .i64 (k : Int))] /\ A = (.row b11 35 false ([.int .i64 0, .slice none 0 0]) :: (nobj B (nl ls ls.length) O ++ (.row bf3 104 false ([.int .i64 (M : Int), .slice al ls.length cl, .slice (some ⟨bt4, 0, none⟩) ls.length ls.length, .slice (some ⟨bn5, 0, none⟩) (M + 1) (M + 1)]) :: (.row bn5 25 false (nsl B (nl ls ls.length) (M + 1)) :: (.row bt4 3 false (ints (xs t ls.length)) :: (.row b2 35 false ([.int .i64 0, .slice none 0 0]) :: [])))))) /\ j = ls.length - k /\ k <= ls.length) 200 0 281474976710656 ?_ (j := _) (env2 := _) (A2 := _) ?_ ?_ ?_ ?_ ⟨0, rfl, rfl, rfl, Nat.zero_le _⟩
  rotate_left
  ·omega
  ·omega
  ·exact (lc 0 J (lc 3 J (lc 10 J (lc 11 J (lc 12 J Less.nil)))))
  ·exact (.q (.r (.q (.q (.q (.q (.cons _ .slnil)))))))
  rintro n hn j _ _ ⟨k, rfl, rfl, rfl, hk⟩;refine rS (kO J (Q6 J J (fun h12 => ?_) (fun h12 => ?_)))
  ·obtain ⟨q4, o4, y0, y1, y2, y3, ahL, hx, hat, i0, i1, i2, i3⟩ := hL.row4 (k := k) (by omega)
   have hat2 := hat;obtain ⟨d0, d1, d2, d3, _⟩ := hat2;have := i0.lo; have := i0.hi;have := i1.lo; have := i1.hi;have := i2.lo; have := i2.hi;have := i3.lo; have := i3.hi;have hlw9 := lw_row hx;have hsr9 := sum_rng hlm hOp hts (show k < ls.length by omega);rw [hlw9] at hsr9;refine Q0 (rQ (Y0 J (W1 (W0 (rQ (Z1 (rS (kM J J (kO J (a_iaA (j := k) ahL rfl rfl (by first | rfl | omega) (by first | decide | omega) (kO J (a_ldar J (by decide) (by assumption) J (kO J (a_new J J (fun b13 => (kM J J (kZ J (Q7 J J .here rfl rfl rfl rfl (Q0 (rI (kM J J (kM J J (kO J (Q5 J (kO J (U2 J (kO J (U1 J (.next (.next (.app .here))) J (kM J J (kO J (Y4 (j := k) J J (by omega) (by omega) (kO J (V5 (x := (t) (k)) J (.next (.next (.app (.next (.next .here))))) (by rw [W4]; omega) (V4 (by omega)) ?_)))))))))))))))))))))))))))))))));refine kO J (U2 J (kO J (U1 J .here rfl (kO J (a_mul J J (by omega) (kO J (Q4 J J (by omega) (kM J J (Q0 (V1 (W0 (rI (kO J (Q4 J J (by omega) (kM J J (Q0 (W0 ?_)))))))))))))))));exact ⟨rfl, _, _, _, (show ls.length - (k + 1) < ls.length - k by omega), (lc 0 J (lc 3 (by show some (Value.int .i64 (_ + t k * y2)) = some (Value.int .i64 (tot (fun i => t i * lw ls i) k + t k * lw ls k)); rw [hlw9]) (lc 10 J (lc 11 J (lc 12 J Less.nil))))), (.cons _ (.q (.r (.q (.q (.q (.q .slnil))))))), ⟨k + 1, rfl, rfl, rfl, by omega⟩⟩
  ·have hkl : k = ls.length := by omega
   subst hkl;refine Q0 (rQ (U0 J (W5 (W3 (W3 (U3 (W0 (rS (kM J J (kM J J (Q0 (Z3 (endD1 J .nil (kO J (Z7 J J (kO J (a_new J J (fun b14 => (kZ J (Q7 J J .here rfl rfl rfl rfl (Q0 (rQ (rS (kM J J (kO J (Q5 J (kO J (U2 J (kO J (U1 J (.next (.next (.app .here))) J ?_))))))))))))))))))))))))))))));refine kO J (a_len J (kM J J (Q0 (Z1 ?_))));refine Z5 (fun j e A => ∃ (k : Nat) (aU : Option Addr) (n9 cp : Nat) (UL : List Ob), e = [(2, .pointer (some ⟨b11, 0, none⟩)), (3, .pointer (some ⟨b14, 0, none⟩)), (12, .slice (some ⟨bt4, 0, none⟩) ls.length ls.length), (13, .int .i64 (ls.length : Int)), (14, .int .i64 (k : Int))] /\ A = (UL ++ (.row b14 35 false ([.int .i64 (tot (fun i => t i * lw ls i) ls.length), .slice aU n9 cp]) :: (.row b11 35 false ([.int .i64 0, .slice none 0 0]) :: (nobj B (nl ls ls.length) O ++ (.row bf3 104 false ([.int .i64 (M : Int), .slice al ls.length cl, .slice (some ⟨bt4, 0, none⟩) ls.length ls.length, .slice (some ⟨bn5, 0, none⟩) (M + 1) (M + 1)]) :: (.row bn5 25 false (nsl B (nl ls ls.length) (M + 1)) :: (.row bt4 3 false (ints (xs t ls.length)) :: (.row b2 35 false ([.int .i64 0, .slice none 0 0]) :: [])))))))) /\ j = ls.length - k /\ k <= ls.length /\ n9 <= k /\ UlOk 76 aU n9 cp (ulC t k) UL) 300 0 281474976710656 ?_ (j := _) (env2 := _) (A2 := _) ?_ ?_ ?_ ?_ ⟨0, none, 0, 0, [], rfl, rfl, rfl, Nat.zero_le _, Nat.le_refl _, (.inl ⟨rfl, rfl, rfl, rfl, rfl⟩)⟩
   rotate_left
   ·omega
   ·omega
   ·exact (lc 2 J (lc 3 J (lc 12 J (lc 13 J (lc 14 J Less.nil)))))
   ·exact (.q (.q (.r (.q (.q (.q (.q .slnil)))))))
   rintro n hn j _ _ ⟨k, aU, n9, cp, UL, rfl, rfl, rfl, hk, hn9, hU⟩;refine rS (kO J (Q6 J J (fun h15 => ?_) (fun h15 => ?_)))
   ·refine Q0 (rQ (Y0 J (W1 (W0 (rQ (Z1 (rS (kM J J (kO J (Y4 (j := k) J J (by omega) (by omega) (kO J (V5 (x := (t) (k)) J (.app (.next (.next (.app (.next (.next .here)))))) (by rw [W4]; omega) (V4 (by omega)) (kM J J (kM J J (Q0 (rS (kM J J (kO J (a_gtr J J (fun h16 => ?_) (fun h16 => ?_))))))))))))))))))))
    ·refine Q0 (Y0 J (rI (kO J (U2 J (kO J (U1 J (.app .here) J (kM J J (kM J J (kO J (Z7 J J (kO J (a_lit J J J (fun b17 => (kO J (a_appU (A1 := [_]) hU rfl rfl rfl (Src.own .here rfl (by simp)) (by decide) (by omega) (by omega) (fun b18 => (kO J (U2 J (kZ J (a_st J J (.next (.next .here)) J J (Q0 (V1 (W0 (rI (kO J (Q4 J J (by omega) (kM J J (Q0 (W0 ?_)))))))))))))))))))))))))))))
     exact ⟨rfl, _, _, _, (show ls.length - (k + 1) < ls.length - k by omega), (lc 2 J (lc 3 J (lc 12 J (lc 13 J (lc 14 J Less.nil))))), (.q (.cons _ (.q (.q (.r (.q (.q (.q (.q .slnil))))))))), ⟨k + 1, some ⟨b18, 0, none⟩, n9 + 1, OPEN, [.row b18 76 true (ulC t k ++ [.int .i64 (k : Int), .int .i64 (t k)])], rfl, rfl, rfl, by omega, by omega, (by rw [<- ul_yes (by assumption)]; exact .inr ⟨_, _, rfl, by omega, by rw [List.length_append, hU.len]; show _ + 2 = _; omega, .inl ⟨rfl, rfl⟩, rfl⟩)⟩⟩
    ·refine Q0 (U0 J (W1 (V1 (W0 (rI (kO J (Q4 J J (by omega) (kM J J (Q0 (W0 ?_))))))))))
     exact ⟨rfl, _, _, _, (show ls.length - (k + 1) < ls.length - k by omega), (lc 2 J (lc 3 J (lc 12 J (lc 13 J (lc 14 J Less.nil))))), (.r (.q (.q (.r (.q (.q (.q (.q .slnil)))))))), ⟨k + 1, aU, n9, cp, UL, rfl, rfl, rfl, by omega, by omega, (ul_no (t := t) (by assumption) ▸ hU)⟩⟩
   ·have hkl : k = ls.length := by omega
    subst hkl;refine Q0 (rQ (U0 J (W5 (W3 (W3 (U3 (W0 (rS (kO J (U5 J (by decide) (.app .here) J (kZ J (Q7 J J (.app (.next .here)) J J J J (Q0 (Z3 (endDc1 J (by decide) .nil (.app (.next .here)) J (kZ J (Q7 J J (.app (.next (.next (.app (.next (.next (.next .here))))))) J J J J (kM J J (Q0 (Z3 ?_))))))))))))))))))));exact endc2A J (by decide) (List.sublist_append_left _ _) (.app (.next (.next (.app (.next (.next (.next .here))))))) J J (.inr (.inr (.inr (.inr ⟨hsys, hww, hnu, t, p, _, _, _, UL, hOp, htb, hts, rfl, rfl, by omega, hU⟩))))
end
theorem dt_all {w x : List Int} {M : Nat} (h0 : x.getD 0 0 = 0) : ∀ {k : Nat}, dt w x k = tot (fun v => x.getD v 0 * du0 w M v) k
 | 0 => rfl
 | k + 1 => by
  show dt w x k + w.getD k 0 * x.getD k 0 = tot _ k + x.getD k 0 * du0 w M k;rw [dt_all h0 (k := k)]
  congr 1
  by_cases e : k = 0
  ·subst e; rw [h0, Int.mul_zero, Int.zero_mul]
  ·rw [show du0 w M k = w.getD k 0 from Q1 (x := fun v => w.getD v 0) e, Int.mul_comm]
theorem opt_same {ls : List (List Int)} {N : Nat} {w t p t2 p2 : Nat -> Int} (h : Opt ls N w t p) (h2 : Opt ls N w t2 p2) (hN : ∀ i, i < ls.length -> la ls i < N /\ lb ls i < N) : tot (fun i => t i * lw ls i) ls.length = tot (fun i => t2 i * lw ls i) ls.length := by
 have a1 := h.eq hN;have a2 := h2.eq hN;have a3 := h.le hN h2.st;have a4 := h2.le hN h.st;omega
theorem hN_of {ls : List (List Int)} {M : Nat} (hl : lmB (M : Int) ls = true) : ∀ i, i < ls.length -> la ls i < M + 1 /\ lb ls i < M + 1 := fun i hi => by
 obtain ⟨h1, h2, _⟩ := lg_of hl i hi;exact ⟨h1, h2⟩
theorem opt_pt {ls : List (List Int)} {M : Nat} {w t : Nat -> Int} {x : List Int} (hl : lmB (M : Int) ls = true) (h : Opt ls (M + 1) w t (fun v => x.getD v 0)) (hx : x.length = M + 1) (h0 : x.getD 0 0 = 0) (hb : ∀ v, v < M + 1 -> -1280000 <= x.getD v 0 /\ x.getD v 0 <= 1280000) : ptB (M : Int) ls x = true /\ inB (-1280000) 1280000 x = true := by
 have hin : inB (-1280000) 1280000 x = true := in_upto (k := M + 1) hb (by omega);refine ⟨pt_yes ⟨by omega, h0⟩ (in_upto (k := M + 1) (fun u hu => by have := hb u hu; omega) (by omega)) ?_, hin⟩;have key : ∀ d k, k + d = ls.length -> kpB x (ls.drop k) = true := by
  intro d
  induction d with
  | zero => intro k hk; rw [List.drop_eq_nil_of_le (by omega)]; rfl
  | succ d ih =>
   intro k hk;have hL := lim_of hl (show k < ls.length by omega);obtain ⟨y3, e⟩ := hL.row;rw [kp_step e, ih (k + 1) (by omega), Bool.and_true, Int.toNat_natCast, Int.toNat_natCast];refine decide_eq_true ?_;have := h.st k (by omega);have : x.getD (lb ls k) 0 <= x.getD (la ls k) 0 + lw ls k := this;omega
 exact key ls.length 0 (by omega)
theorem dt_best {ls : List (List Int)} {w x : List Int} {M : Nat} {t p t2 : Nat -> Int} (hl : lmB (M : Int) ls = true) (ho : Opt ls (M + 1) (du0 w M) t p) (h2 : Opt ls (M + 1) (du0 w M) t2 (fun v => x.getD v 0)) (hx : x.getD 0 0 = 0) : dt w x (M + 1) = tot (fun i => t i * lw ls i) ls.length := by
 rw [dt_all hx (M := M), opt_same ho h2 (hN_of hl)];exact h2.eq (hN_of hl)
theorem ulL_row {t : Nat -> Int} : ∀ {k : Nat}, ∀ r ∈ ulL t k, ∃ i : Nat, i < k /\ r = [(i : Int), t i]
 | 0, r, h => by cases h
 | k + 1, r, h => by
  by_cases c : 0 < t k
  ·rw [show ulL t (k + 1) = ulL t k ++ [[(k : Int), t k]] from if_pos c] at h
   rcases List.mem_append.1 h with q | q
   ·obtain ⟨i, hi, e⟩ := ulL_row r q
    exact ⟨i, by omega, e⟩
   ·rw [List.mem_singleton] at q
    exact ⟨k, by omega, q⟩
  ·rw [show ulL t (k + 1) = ulL t k from if_neg c] at h
   obtain ⟨i, hi, e⟩ := ulL_row r h;exact ⟨i, by omega, e⟩
theorem ulC_len {t : Nat -> Int} : ∀ {k : Nat}, (ulC t k).length = (ulL t k).length * 2
 | 0 => rfl
 | k + 1 => by
  by_cases c : 0 < t k
  ·rw [show ulC t (k + 1) = ulC t k ++ [.int .i64 (k : Int), .int .i64 (t k)] from if_pos c, show ulL t (k + 1) = ulL t k ++ [[(k : Int), t k]] from if_pos c, List.length_append, List.length_append, ulC_len]
   show _ + 2 = (_ + 1) * 2; omega
  ·rw [show ulC t (k + 1) = ulC t k from if_neg c, show ulL t (k + 1) = ulL t k from if_neg c]; exact ulC_len
theorem ulC_get {t : Nat -> Int} : ∀ {k q : Nat}, q < (ulL t k).length -> (ulC t k)[q * 2]? = some (.int .i64 (((ulL t k).getD q []).getD 0 0)) /\ (ulC t k)[q * 2 + 1]? = some (.int .i64 (((ulL t k).getD q []).getD 1 0))
 | 0, q, h => by cases h
 | k + 1, q, h => by
  by_cases c : 0 < t k
  ·rw [show ulC t (k + 1) = ulC t k ++ [.int .i64 (k : Int), .int .i64 (t k)] from if_pos c]
   rw [show ulL t (k + 1) = ulL t k ++ [[(k : Int), t k]] from if_pos c, List.length_append] at *;have h : q < (ulL t k).length + 1 := h;by_cases e : q < (ulL t k).length
   ·rw [List.getElem?_append_left (by rw [ulC_len]; omega), List.getElem?_append_left (by rw [ulC_len]; omega), ap_old e]
    exact ulC_get e
   ·obtain rfl : q = (ulL t k).length := by omega
    rw [List.getElem?_append_right (by rw [ulC_len]; omega), List.getElem?_append_right (by rw [ulC_len]; omega), ulC_len, Nat.sub_self, show (ulL t k).length * 2 + 1 - (ulL t k).length * 2 = 1 by omega, ap_new];exact ⟨rfl, rfl⟩
  ·rw [show ulC t (k + 1) = ulC t k from if_neg c]
   rw [show ulL t (k + 1) = ulL t k from if_neg c] at *;exact ulC_get h
theorem UlOk.rows {TU : Nat} {s0 s : St} {a : Option Addr} {n c k : Nat} {t : Nat -> Int} {UL A : List Ob} (h : UlOk TU a n c (ulC t k) UL) (hA : UL.Sublist A) (hs : Hld s0 A s) (hk : k <= 1000000) (ht : ∀ i, i < k -> 0 <= t i /\ t i <= 3600000000000) : RowsE s 2 a (ulL t k) /\ n = (ulL t k).length := by
 have hlen := h.len;rw [ulC_len] at hlen;have hn : n = (ulL t k).length := by omega
 refine ⟨?_, hn⟩;have hf : ∀ r ∈ ulL t k, r.length = 2 /\ ∀ x ∈ r, -9223372036854775808 <= x /\ x < 9223372036854775808 := fun r hr => by
  obtain ⟨i, hi, rfl⟩ := ulL_row r hr;have := ht i hi;refine ⟨rfl, fun x hx => ?_⟩;simp only [List.mem_cons, List.not_mem_nil, or_false] at hx;omega
 have hL : ∀ {k : Nat}, (ulL t k).length <= k := fun {k} => by
  induction k with
  | zero => exact Nat.le_refl _
  | succ k ih =>
   by_cases c : 0 < t k
   ·rw [show ulL t (k + 1) = ulL t k ++ [[(k : Int), t k]] from if_pos c, List.length_append]; show _ + 1 <= _; omega
   ·rw [show ulL t (k + 1) = ulL t k from if_neg c]; omega
 have hL' := hL (k := k);rcases h with ⟨rfl, h0, _, h3, _⟩ | ⟨b, op, rfl, h0, _, _, hU⟩
 ·have e : ulL t k = [] := List.eq_nil_of_length_eq_zero (by omega)
  rw [e];exact ⟨fun b hb => (by cases hb), fun q => absurd rfl q, fun b o hb i r hr => (by cases hb), fun r hr => (by cases hr), fun r hr => (by cases hr), (by simp)⟩
 ·refine ⟨fun c hc => (by cases hc; rfl), fun _ => ⟨b, 0, rfl⟩, fun c o hc i r hr => ?_, fun r hr => (hf r hr).1, fun r hr => (hf r hr).2, by omega⟩
  cases hc;have ho := (hs.sub hA).own (show Own UL b TU op (ulC t k) by rw [hU]; exact .here);obtain ⟨hi, e1⟩ := List.getElem?_eq_some_iff.1 hr;have e2 : (ulL t k).getD i [] = r := by rw [List.getD_eq_getElem?_getD, hr]; rfl
  obtain ⟨g0, g1⟩ := ulC_get (t := t) (k := k) hi;rw [e2] at g0 g1;obtain ⟨z, hz, rfl⟩ := ulL_row r (List.mem_of_getElem? hr);exact ho.ats (fun j hj => by
   have hj' : j < 2 := hj
   match j, hj' with
   | 0, _ => rw [show 0 + i * 2 + 0 = i * 2 by omega, g0]; rfl
   | 1, _ => rw [show 0 + i * 2 + 1 = i * 2 + 1 by omega, g1]; rfl)
section
variable {X : FuncId -> List Value -> St -> (Value -> St -> Bool) -> Bool}
end
theorem fit_in {x : List Int} (h : inB (-1280000) 1280000 x = true) : ∀ z ∈ x, -9223372036854775808 <= z /\ z < 9223372036854775808 := fun z hz => by
 have := List.all_eq_true.1 h z hz;have := of_decide_eq_true this;omega
section
variable {X : FuncId -> List Value -> St -> (Value -> St -> Bool) -> Bool}
end
theorem tot_mul {c : Int} {f : Nat -> Int} : ∀ {N : Nat}, tot (fun i => c * f i) N = c * tot f N
 | 0 => (Int.mul_zero c).symm
 | N + 1 => by show tot (fun i => c * f i) N + c * f N = c * (tot f N + f N); rw [tot_mul, Int.mul_add]
theorem tot_swap {F : Nat -> Nat -> Int} {N : Nat} : ∀ {K : Nat}, tot (fun a => tot (fun b => F a b) N) K = tot (fun b => tot (fun a => F a b) K) N
 | 0 => (tot_nil (fun _ _ => rfl)).symm
 | K + 1 => by
  show tot (fun a => tot (fun b => F a b) N) K + tot (fun b => F K b) N = tot (fun b => tot (fun a => F a b) K + F K b) N;rw [tot_swap, tot_add]
def nF (F : Nat -> Nat -> Int) (N v : Nat) : Int := tot (fun a => F a v) N - tot (fun b => F v b) N
def tt (F : Nat -> Nat -> Int) (N : Nat) : Int := tot (fun a => tot (fun b => F a b) N) N
theorem tt_congr {F G : Nat -> Nat -> Int} {N : Nat} (h : ∀ a b, a < N -> b < N -> F a b = G a b) : tt F N = tt G N := U6 (fun a ha => U6 (fun b hb => h a b ha hb))
theorem tt_le {F G : Nat -> Nat -> Int} {N : Nat} (h : ∀ a b, a < N -> b < N -> F a b <= G a b) : tt F N <= tt G N := tot_le (fun a ha => tot_le (fun b hb => h a b ha hb))
theorem dot_nF {F : Nat -> Nat -> Int} {p : Nat -> Int} {N : Nat} : tot (fun v => p v * nF F N v) N = tt (fun a b => F a b * (p b - p a)) N := by
 have e1 : tot (fun v => p v * nF F N v) N = tot (fun v => tot (fun a => p v * F a v) N - tot (fun b => p v * F v b) N) N := U6 (fun v _ => by
  show p v * (tot (fun a => F a v) N - tot (fun b => F v b) N) = _;rw [Int.mul_sub, tot_mul, tot_mul])
 rw [e1, tot_sub, tot_swap (F := fun v a => p v * F a v), <- tot_sub];refine U6 (fun a _ => ?_);rw [<- tot_sub];exact U6 (fun b _ => by show p b * F a b - p a * F a b = F a b * (p b - p a); rw [Int.mul_sub, Int.mul_comm (p b), Int.mul_comm (p a)])
theorem colF_upd {F : Nat -> Nat -> Int} {a b N v : Nat} {z : Int} (ha : a < N) : tot (fun i => updT F a b z i v) N = tot (fun i => F i v) N + (if v = b then z - F a b else 0) := by
 by_cases e : v = b
 ·subst e
  rw [if_pos rfl, <- tot_upd (x := fun i => F i v) (b := a) (z := z) ha];exact U6 (fun i _ => by
   unfold updT;by_cases q : i = a
   ·rw [if_pos ⟨q, rfl⟩, q, V2]
   ·rw [if_neg (fun z => q z.1), Q1 q])
 ·rw [if_neg e, Int.add_zero]
  exact U6 (fun i _ => if_neg (fun z => e z.2))
theorem rowF_upd {F : Nat -> Nat -> Int} {a b N v : Nat} {z : Int} (hb : b < N) : tot (fun j => updT F a b z v j) N = tot (fun j => F v j) N + (if v = a then z - F a b else 0) := by
 by_cases e : v = a
 ·subst e
  rw [if_pos rfl, <- tot_upd (x := fun j => F v j) (b := b) (z := z) hb];exact U6 (fun j _ => by
   unfold updT;by_cases q : j = b
   ·rw [if_pos ⟨rfl, q⟩, q, V2]
   ·rw [if_neg (fun z => q z.2), Q1 q])
 ·rw [if_neg e, Int.add_zero]
  exact U6 (fun j _ => if_neg (fun z => e z.1))
theorem nF_upd {F : Nat -> Nat -> Int} {a b N v : Nat} {d : Int} (ha : a < N) (hb : b < N) : nF (updT F a b (F a b + d)) N v = nF F N v + ((if v = b then d else 0) - (if v = a then d else 0)) := by
 unfold nF;rw [colF_upd ha, rowF_upd hb, show F a b + d - F a b = d by omega];omega
theorem upT_eq {F : Nat -> Nat -> Int} {a b : Nat} {z : Int} : updT F a b z a b = z := if_pos ⟨rfl, rfl⟩
theorem upT_ne {F : Nat -> Nat -> Int} {a b i j : Nat} {z : Int} (h : ¬ (i = a /\ j = b)) : updT F a b z i j = F i j := if_neg h
structure MT (m : Nat -> Nat -> Int) (N : Nat) : Prop where
 dg : ∀ a, a < N -> m a a = 0
 lo : ∀ a b, a < N -> b < N -> -1300000 <= m a b
 hi : ∀ a b, a < N -> b < N -> m a b = 1000000000 ∨ m a b <= 1280000
def pos (need : Nat -> Int) (N : Nat) : Int := tot (fun v => max (need v) 0) N
structure LS (m : Nat -> Nat -> Int) (N : Nat) (w need : Nat -> Int) (F : Nat -> Nat -> Int) (p : Nat -> Int) : Prop where
 nn : ∀ a b, a < N -> b < N -> 0 <= F a b
 ar : ∀ a b, a < N -> b < N -> 0 < F a b -> a ≠ b /\ ¬ m a b = 1000000000 /\ p b = p a + m a b
 st : ∀ a b, a < N -> b < N -> ¬ m a b = 1000000000 -> p b <= p a + m a b
 nt : ∀ v, v < N -> nF F N v = w v - need v
 lo : ∀ v, v < N -> -1300000 <= p v
 so : ∀ v, v < N -> need v < 0 -> p v <= 0
 nb : ∀ v, v < N -> -3600000000000 <= need v /\ need v <= 3600000000000
 cp : ∀ a b, a < N -> b < N -> F a b + pos need N <= 3600000000000
def Ra (m F : Nat -> Nat -> Int) (a v : Nat) (k : Bool) (om : Int) : Prop := (k = false /\ a ≠ v /\ ¬ m a v = 1000000000 /\ om = m a v) ∨ (k = true /\ 0 < F v a /\ om = -(m v a))
theorem Ra.pot {m F : Nat -> Nat -> Int} {N : Nat} {w need p : Nat -> Int} {a v : Nat} {k : Bool} {om : Int} (hm : MT m N) (h : LS m N w need F p) (ha : a < N) (hv : v < N) (r : Ra m F a v k om) : p v <= p a + om /\ om <= 1300000 /\ -1300000 <= om /\ a ≠ v := by
 rcases r with ⟨_, h1, h2, rfl⟩ | ⟨_, h1, rfl⟩
 ·have := h.st a v ha hv h2
  have := (hm.hi a v ha hv).resolve_left h2;have := hm.lo a v ha hv;exact ⟨by omega, by omega, by omega, h1⟩
 ·obtain ⟨k1, k2, k3⟩ := h.ar v a hv ha h1
  have := (hm.hi v a hv ha).resolve_left k2;have := hm.lo v a hv ha;exact ⟨by omega, by omega, by omega, fun e => k1 e.symm⟩
structure Rh (m F : Nat -> Nat -> Int) (N : Nat) (need p x f : Nat -> Int) (bk : Nat -> Bool) (T : Nat -> Nat) (c : Nat) : Prop where
 lo : ∀ v, v < N -> ¬ x v = 1000000000 -> p v <= x v
 up : ∀ v, v < N -> ¬ x v = 1000000000 -> x v <= 1300000 * (fcn x N - 1)
 so : ∀ v, v < N -> need v < 0 -> x v <= 0
 rt : ∀ v, v < N -> f v = -1 -> x v = 1000000000 ∨ need v < 0
 pr : ∀ v, v < N -> ¬ f v = -1 -> ∃ a : Nat, f v = (a : Int) /\ a < N /\ ¬ x a = 1000000000 /\ ¬ x v = 1000000000 /\ ∃ om, Ra m F a v (bk v) om /\ x a + om <= x v /\ (x a - p a < x v - p v ∨ (x a - p a = x v - p v /\ T a < T v))
 ck : ∀ v, v < N -> T v < c
theorem Rh.bd {m F : Nat -> Nat -> Int} {N : Nat} {w need p x f : Nat -> Int} {bk : Nat -> Bool} {T : Nat -> Nat} {c : Nat} (hs : LS m N w need F p) (hN : N <= 65) (h : Rh m F N need p x f bk T c) {v : Nat} (hv : v < N) : -1300000 <= x v /\ (x v = 1000000000 ∨ x v <= 84500000) := by
 by_cases q : x v = 1000000000
 ·exact ⟨by omega, .inl q⟩
 ·have h1 := h.lo v hv q
  have h2 := hs.lo v hv;have h3 := h.up v hv q;have h4 := (cnt_bd (x := x) (N := N)).2;exact ⟨by omega, .inr (by omega)⟩
theorem Rh.rlx {m F : Nat -> Nat -> Int} {N : Nat} {w need p x f : Nat -> Int} {bk : Nat -> Bool} {T : Nat -> Nat} {c a b : Nat} {k : Bool} {om : Int} (hm : MT m N) (hs : LS m N w need F p) (hN : N <= 65) (h : Rh m F N need p x f bk T c) (ha : a < N) (hb : b < N) (hx : ¬ x a = 1000000000) (r : Ra m F a b k om) (hlt : x a + om < x b) : Rh m F N need p (Z2 x b (x a + om)) (Z2 f b (a : Int)) (Z2 bk b k) (Z2 T b c) (c + 1) /\ tot (Z2 x b (x a + om)) N < tot x N := by
 obtain ⟨p1, p2, p3, p4⟩ := r.pot hm hs ha hb;have la := h.lo a ha hx;have ua := h.up a ha hx;have bd := (h.bd hs hN ha).2.resolve_left hx;have hz : ¬ x a + om = 1000000000 := by omega
 have hcn := cnt_upd (x := x) hz hb;refine ⟨⟨fun v hv hf => ?_, fun v hv hf => ?_, fun v hv hn => ?_, fun v hv hf => ?_, fun v hv hf => ?_, fun v hv => ?_⟩, by rw [tot_upd hb]; omega⟩
 ·by_cases e : v = b
  ·rw [e, V2]; omega
  ·rw [Q1 e] at hf ⊢; exact h.lo v hv hf
 ·rw [hcn]
  by_cases e : v = b
  ·rw [e, V2]
   by_cases q2 : x b = 1000000000
   ·rw [if_pos q2]; omega
   ·rw [if_neg q2]
    have := h.up b hb q2;omega
  ·rw [Q1 e] at hf ⊢
   have := h.up v hv hf;split <;> omega
 ·have := h.so v hv hn
  by_cases e : v = b
  ·rw [e, V2]; rw [e] at this; omega
  ·rw [Q1 e]; exact this
 ·by_cases e : v = b
  ·rw [e, V2] at hf; omega
  ·rw [Q1 e] at hf ⊢; exact h.rt v hv hf
 ·by_cases e : v = b
  ·subst e
   refine ⟨a, V2, ha, by rw [Q1 p4]; exact hx, by rw [V2]; exact hz, om, by rw [V2]; exact r, by rw [Q1 p4, V2]; exact Int.le_refl _, ?_⟩;rw [Q1 p4, V2, Q1 p4, V2];have := h.ck a ha;by_cases q : x a - p a < x a + om - p v
   ·exact .inl q
   ·exact .inr ⟨by omega, this⟩
  ·rw [Q1 e] at hf
   obtain ⟨u, e1, e2, e3, e4, om', e5, e6, e7⟩ := h.pr v hv hf;by_cases e' : u = b
   ·subst e'
    refine ⟨u, by rw [Q1 e]; exact e1, e2, by rw [V2]; exact hz, by rw [Q1 e]; exact e4, om', by rw [Q1 e]; exact e5, by rw [V2, Q1 e]; omega, ?_⟩;rw [V2, Q1 e]
    left
    rcases e7 with q | ⟨q, _⟩ <;> omega
   ·exact ⟨u, by rw [Q1 e]; exact e1, e2, by rw [Q1 e']; exact e3, by rw [Q1 e]; exact e4, om', by rw [Q1 e]; exact e5, by rw [Q1 e', Q1 e]; exact e6, by rw [Q1 e', Q1 e, Q1 e', Q1 e]; exact e7⟩
 ·by_cases e : v = b
  ·rw [e, V2]; omega
  ·rw [Q1 e]; have := h.ck v hv; omega
def Clo (m F : Nat -> Nat -> Int) (x : Nat -> Int) (a b : Nat) : Prop := (a ≠ b -> ¬ m a b = 1000000000 -> x b <= x a + m a b) /\ (0 < F b a -> x b <= x a - m b a)
structure Ps (m F : Nat -> Nat -> Int) (N : Nat) (x0 x : Nat -> Int) (g : Bool) (a b : Nat) : Prop where
 no : g = false -> tot x N = tot x0 N /\ (∀ i j, i < a -> j < N -> ¬ x i = 1000000000 -> Clo m F x i j) /\ (∀ j, j < b -> ¬ x a = 1000000000 -> Clo m F x a j)
 yes : g = true -> tot x N < tot x0 N
theorem Ps.row {m F : Nat -> Nat -> Int} {N : Nat} {x0 x : Nat -> Int} {g : Bool} {a : Nat} (h : Ps m F N x0 x g a N) : Ps m F N x0 x g (a + 1) 0 := ⟨fun q => by
 obtain ⟨h1, h2, h3⟩ := h.no q;refine ⟨h1, fun i j hi hj hx => ?_, fun j hj => absurd hj (Nat.not_lt_zero j)⟩;by_cases e : i = a
 ·subst e; exact h3 j hj hx
 ·exact h2 i j (by omega) hj hx, h.yes⟩
theorem Ps.skip {m F : Nat -> Nat -> Int} {N : Nat} {x0 x : Nat -> Int} {g : Bool} {a : Nat} (h : Ps m F N x0 x g a 0) (hx : x a = 1000000000) : Ps m F N x0 x g (a + 1) 0 := ⟨fun q => by
 obtain ⟨h1, h2, h3⟩ := h.no q;refine ⟨h1, fun i j hi hj hx' => ?_, fun j hj => absurd hj (Nat.not_lt_zero j)⟩;by_cases e : i = a
 ·subst e; exact absurd hx hx'
 ·exact h2 i j (by omega) hj hx', h.yes⟩
theorem Ps.go {m F : Nat -> Nat -> Int} {N : Nat} {x0 x : Nat -> Int} {g : Bool} {a b : Nat} (h : Ps m F N x0 x g a b) (hc : Clo m F x a b) : Ps m F N x0 x g a (b + 1) := ⟨fun q => by
 obtain ⟨h1, h2, h3⟩ := h.no q;refine ⟨h1, h2, fun j hj hx => ?_⟩;by_cases e : j = b
 ·subst e; exact hc
 ·exact h3 j (by omega) hx, h.yes⟩
theorem Ps.low {m F : Nat -> Nat -> Int} {N : Nat} {x0 x x2 : Nat -> Int} {g : Bool} {a b b2 : Nat} (h : Ps m F N x0 x g a b) (hl : tot x2 N < tot x N) : Ps m F N x0 x2 true a b2 := ⟨fun q => (by cases q), fun _ => by
 cases g with
 | false => have := (h.no rfl).1; omega
 | true => have := h.yes rfl; omega⟩
theorem Ps.zero {m F : Nat -> Nat -> Int} {N : Nat} {x0 : Nat -> Int} : Ps m F N x0 x0 false 0 0 := ⟨fun _ => ⟨rfl, fun i _ hi => absurd hi (Nat.not_lt_zero i), fun j hj => absurd hj (Nat.not_lt_zero j)⟩, fun q => (by cases q)⟩
structure Rf (m F : Nat -> Nat -> Int) (N : Nat) (need p x f : Nat -> Int) (bk : Nat -> Bool) (T : Nat -> Nat) (c : Nat) : Prop where
 rh : Rh m F N need p x f bk T c
 fw : ∀ a b, a < N -> b < N -> ¬ x a = 1000000000 -> ¬ m a b = 1000000000 -> ¬ x b = 1000000000 /\ x b <= x a + m a b
 bw : ∀ a b, a < N -> b < N -> ¬ x a = 1000000000 -> 0 < F b a -> ¬ x b = 1000000000 /\ x b <= x a - m b a
theorem Rf.of {m F : Nat -> Nat -> Int} {N : Nat} {w need p x0 x f : Nat -> Int} {bk : Nat -> Bool} {T : Nat -> Nat} {c : Nat} (hm : MT m N) (hs : LS m N w need F p) (hN : N <= 65) (h : Rh m F N need p x f bk T c) (hp : Ps m F N x0 x false N 0) : Rf m F N need p x f bk T c := by
 obtain ⟨_, h2, _⟩ := hp.no rfl;refine ⟨h, fun a b ha hb hx hf => ?_, fun a b ha hb hx hF => ?_⟩
 ·have bd := (h.bd hs hN ha).2.resolve_left hx
  by_cases e : a = b
  ·subst e; rw [hm.dg a ha]; exact ⟨hx, by omega⟩
  ·have := (h2 a b ha hb hx).1 e hf
   have := (hm.hi a b ha hb).resolve_left hf;exact ⟨by omega, by omega⟩
 ·have bd := (h.bd hs hN ha).2.resolve_left hx
  have := (h2 a b ha hb hx).2 hF;have := hm.lo b a hb ha;exact ⟨by omega, by omega⟩
section
variable {X : FuncId -> List Value -> St -> (Value -> St -> Bool) -> Bool}
end
end Ev
end Go.Proofs.YtoeklhdklcpllaaGreat
