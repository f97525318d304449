import Derived.Test.YtoeklhdklcpllaaZi15
set_option linter.unusedVariables false
set_option linter.unusedSimpArgs false
namespace Go.Proofs.Ytoeklhdklcpllaa
open Go Go.RowKit
namespace Ev
theorem limC_take {ls : List (List Int)} {k : Nat} (h : k <= ls.length) : (limC ls).take (k * 4) = limC (ls.take k) := by
 have e : limC ls = limC (ls.take k) ++ limC (ls.drop k) := by rw [<- limC_app, List.take_append_drop]
 rw [e, List.take_left' (by rw [limC_len, List.length_take]; congr 1; omega)]
theorem limC_drop {ls : List (List Int)} {k : Nat} (h : k <= ls.length) : (limC ls).drop (k * 4) = limC (ls.drop k) := by
 have e : limC ls = limC (ls.take k) ++ limC (ls.drop k) := by rw [<- limC_app, List.take_append_drop]
 rw [e, List.drop_left' (by rw [limC_len, List.length_take]; congr 1; omega)]
theorem limC_segP {ts : List (List Int)} {k : Nat} {y0 y1 y2 y3 : Int} {z : List Value} (h : ts[k]? = some [y0, y1, y2, y3]) : segL (limC ts ++ z) (0 + k * 4) 4 = some [.int .i64 y0, .int .i64 y1, .int .i64 y2, .int .i64 y3] := by
 have h1 := limC_seg h;obtain ⟨hk, _⟩ := List.getElem?_eq_some_iff.1 h;rw [seg_some (by rw [limC_len]; omega) (by rw [limC_len]; omega)] at h1;rw [seg_some (by rw [List.length_append, limC_len]; omega) (by rw [List.length_append, limC_len]; omega)];rw [<- h1, List.drop_append_of_le_length (by rw [limC_len]; omega), List.take_append_of_le_length (by rw [List.length_drop, limC_len]; omega)]
theorem rows_ownP {s : St} {b e : Nat} {op : Bool} {M : Nat} {ts : List (List Int)} {z : List Value} (hg : Lg M ts) (hn : ts.length < 140737488355328) (hf : ∀ r ∈ ts, r.length = 4 /\ ∀ x ∈ r, -9223372036854775808 <= x /\ x < 9223372036854775808) (h : Obj s b e op (limC ts ++ z)) : RowsE s 4 (some ⟨b, 0, none⟩) ts := by
 refine ⟨fun c hc => by cases hc; rfl, fun _ => ⟨b, 0, rfl⟩, fun c o hc k r hr => ?_, fun r hr => (hf r hr).1, fun r hr => (hf r hr).2, hn⟩;cases hc;obtain ⟨hk, e1⟩ := List.getElem?_eq_some_iff.1 hr;obtain ⟨_, _, _, _, _, y3, e2⟩ := hg k hk;rw [hr] at e2;cases e2;have := limC_segP (z := z) hr;have h2 := (segL_eq this).2;exact h.ats (fun j hj => h2 j hj)
theorem dl_over {ls : List (List Int)} {k : Nat} (hk : k < ls.length) : over (limC ls) (k * 4) (limC (ls.drop (k + 1))) = limC (dl ls k) ++ (limC ls).drop ((ls.length - 1) * 4) := by
 unfold over;rw [limC_take (by omega), limC_len, List.length_drop, show k * 4 + (ls.length - (k + 1)) * 4 = (ls.length - 1) * 4 by omega, <- limC_app]; rfl
theorem dl_mem {ls : List (List Int)} {k : Nat} {r : List Int} (h : r ∈ dl ls k) : r ∈ ls := by
 unfold dl at h;rcases List.mem_append.1 h with q | q
 ·exact List.mem_of_mem_take q
 ·exact List.mem_of_mem_drop q
theorem a_appD {P : Program} {C : Nat -> (CF -> Bool) -> Bool} {X : FuncId -> List Value -> St -> (Value -> St -> Bool) -> Bool} {s0 : St} {n nt b : Nat} {env : List (Nat × Value)} {A : List Ob} {R : Value -> List Ob -> Prop} {e k c9 : Nat} {z : List Value} {ls : List (List Int)} {x y : Ev.X} {A' : List Ob} (hk : k < ls.length) (h4 : ls.length <= 400) (hx : xv env x = some (.slice (some ⟨b, 0, none⟩) k OPEN)) (hy : xv env y = some (.slice (some ⟨b, (0 + (k + 1)) * 4, none⟩) (ls.length - (k + 1)) c9)) (hu : Upd A b e true (limC ls) (limC (dl ls k) ++ (limC ls).drop ((ls.length - 1) * 4)) A')
 (h : R (.slice (some ⟨b, 0, none⟩) (ls.length - 1) OPEN) A') : OpA P C X s0 n nt (.app e 4 32 z false x y) env A R := by
 by_cases q : k + 1 = ls.length
 ·have e1 : ls.length - (k + 1) = 0 := by omega
  have e3 : ls.length - 1 = k := by omega
  have e2 : limC (dl ls k) ++ (limC ls).drop ((ls.length - 1) * 4) = limC ls := by
   rw [e3, show dl ls k = ls.take k from by unfold dl; rw [q, List.drop_length, List.append_nil], <- limC_take (by omega), List.take_append_drop]
  rw [e1] at hy;rw [e2] at hu;rw [e3] at h;exact a_appO0 J hx hy hu (by rw [limC_len]; omega) (by omega) (by omega) h
 ·have hd : (limC (ls.drop (k + 1))).length = (ls.length - (k + 1)) * 4 := by rw [limC_len, List.length_drop]
  refine a_appO J hx hy (more := limC (ls.drop (k + 1))) ⟨b, _, _, rfl, hd, fun q9 => ?_, .inl ⟨_, _, _, hu.own, ?_⟩⟩ (by rw [dl_over hk]; exact hu) (by rw [limC_len]; omega) (by omega) (by omega) ?_
  ·rw [q9] at hd
   have : 0 = (ls.length - (k + 1)) * 4 := hd;omega
  ·rw [seg_some (by rw [hd, limC_len]; omega) (by rw [hd, limC_len]; omega), hd, <- List.length_drop, <- limC_len, Nat.zero_add, limC_drop (by omega), List.take_length]
  ·rw [show k + (ls.length - (k + 1)) = ls.length - 1 by omega]; exact h
theorem a_clrD {P : Program} {C : Nat -> (CF -> Bool) -> Bool} {X : FuncId -> List Value -> St -> (Value -> St -> Bool) -> Bool} {s0 : St} {n nt b : Nat} {env : List (Nat × Value)} {A : List Ob} {R : Value -> List Ob -> Prop} {e cap m : Nat} {op : Bool} {l2 : List (List Int)} {d z : List Value} {x : Ev.X} {A' : List Ob} (hm : m = l2.length + 1) (hd : d.length = 4) (hz : z.length = 4) (hx : xv env x = some (.slice (some ⟨b, (0 + l2.length) * 4, none⟩) (m - l2.length) cap)) (hu : Upd A b e op (limC l2 ++ d) (limC l2 ++ z) A')
 (h : R (.tuple #[]) A') : OpA P C X s0 n nt (.clear 4 z x) env A R := by
 subst hm;rw [Nat.zero_add, Nat.add_sub_cancel_left] at hx;have e1 : repeatN z 1 = z := List.append_nil z;refine a_clr (e := e) (op := op) hx (by decide) (l := limC l2 ++ d) ?_ (by rw [e1, hz]) (by rw [List.length_append, limC_len, hd]; omega) h;have e2 : over (limC l2 ++ d) (l2.length * 4) (repeatN z 1) = limC l2 ++ z := by
  rw [e1];unfold over;rw [List.take_left' limC_len, List.drop_eq_nil_of_le (by rw [List.length_append, limC_len, hd, hz]; omega), List.append_nil]
 rw [e2]; exact hu
inductive Cut (U : List Ob) : List Ob -> List Ob -> Prop where
 | here {A : List Ob} : Cut U (U ++ A) A
 | next {x : Ob} {A A' : List Ob} (h : Cut U A A') : Cut U (x :: A) (x :: A')
theorem Cut.one {x : Ob} {A : List Ob} : Cut [x] (x :: A) A := .here
theorem Cut.app {U T A A' : List Ob} (h : Cut U A A') : Cut U (T ++ A) (T ++ A') := by
 induction T with
 | nil => exact h
 | cons x T ih => exact .next ih
theorem Cut.parts {U A A' : List Ob} (h : Cut U A A') : ∃ A1 A2, A = A1 ++ (U ++ A2) /\ A' = A1 ++ A2 := by
 induction h with
 | here => exact ⟨[], _, rfl, rfl⟩
 | next _ ih =>
  obtain ⟨A1, A2, h1, h2⟩ := ih;exact ⟨_ :: A1, A2, by rw [h1]; rfl, by rw [h2]; rfl⟩
theorem a_appIC {P : Program} {C : Nat -> (CF -> Bool) -> Bool} {X : FuncId -> List Value -> St -> (Value -> St -> Bool) -> Bool} {s0 : St} {n nt : Nat} {env : List (Nat × Value)} {A : List Ob} {R : Value -> List Ob -> Prop} {A' UL : List Ob} {TU k c : Nat} {a : Option Addr} {l : List Int} {more z : List Value} {x y : Ev.X} {yv : Value} (hU : IlR TU a k c l UL) (hA : Cut UL A A') (hx : xv env x = some (.slice a k c)) (hy : xv env y = some yv) (hsrc : Src s0 A 1 1 more yv) (hm : (1 : Nat) ≠ 0) (hb1 : k + 1 <= 1048576) (hb2 : 8 * (k + 1) <= 1073741824)
 (h : ∀ b, R (.slice (some ⟨b, 0, none⟩) (k + 1) OPEN) (.row b TU true (ints l ++ more) :: A')) : OpA P C X s0 n nt (.app TU 1 8 z false x y) env A R := by
 obtain ⟨A1, A2, h1, h2⟩ := hA.parts;exact a_appI hU h1 hx hy hsrc hm hb1 hb2 (fun b => by rw [<- h2]; exact h b)
structure IdP (ls : List (List Int)) (M k : Nat) (il : List Int) : Prop where
 yes : ∀ i, i < k -> (i : Int) ∈ il -> ∃ d, Dd (dl ls i) (M + 1) (la ls i) d /\ d (lb ls i) <= lw ls i
 no : ∀ i, i < k -> ¬ (i : Int) ∈ il -> ∃ d, Dd (dl ls i) (M + 1) (la ls i) d /\ lw ls i < d (lb ls i)
 len : il.length <= k
 rg : ∀ z ∈ il, 0 <= z /\ z < (k : Int)
theorem IdP.zero {ls : List (List Int)} {M : Nat} : IdP ls M 0 [] := ⟨fun i h => absurd h (Nat.not_lt_zero i), fun i h => absurd h (Nat.not_lt_zero i), Nat.le_refl _, fun z h => by cases h⟩
theorem id_row {ls : List (List Int)} {k f h : Nat} {y2 y3 : Int} (hx : ls[k]? = some [(f : Int), (h : Int), y2, y3]) : la ls k = f /\ lb ls k = h /\ lw ls k = y2 := by
 have e : ls.getD k [] = [(f : Int), (h : Int), y2, y3] := by rw [List.getD_eq_getElem?_getD, hx]; rfl
 unfold la lb lw;rw [e]; exact ⟨Int.toNat_natCast f, Int.toNat_natCast h, rfl⟩
theorem IdP.add {ls : List (List Int)} {M k f h : Nat} {il : List Int} {d : Nat -> Int} {y2 y3 : Int} (p : IdP ls M k il) (hx : ls[k]? = some [(f : Int), (h : Int), y2, y3]) (hd : Dd (dl ls k) (M + 1) f d) (hi : d h <= y2) : IdP ls M (k + 1) (il ++ [(k : Int)]) := by
 obtain ⟨e1, e2, e3⟩ := id_row hx;refine ⟨fun i h1 h2 => ?_, fun i h1 h2 => ?_, by rw [List.length_append]; have := p.len; show il.length + 1 <= _; omega, fun z hz => ?_⟩
 ·by_cases q : i = k
  ·subst q; exact ⟨d, by rw [e1]; exact hd, by rw [e2, e3]; exact hi⟩
  ·refine p.yes i (by omega) ((List.mem_append.1 h2).resolve_right (fun c => ?_))
   rw [List.mem_singleton] at c; omega
 ·by_cases q : i = k
  ·subst q; exact absurd (List.mem_append_right _ (List.mem_singleton.2 rfl)) h2
  ·exact p.no i (by omega) (fun c => h2 (List.mem_append_left _ c))
 ·rcases List.mem_append.1 hz with c | c
  ·have := p.rg z c; omega
  ·rw [List.mem_singleton] at c; omega
theorem IdP.skip {ls : List (List Int)} {M k f h : Nat} {il : List Int} {d : Nat -> Int} {y2 y3 : Int} (p : IdP ls M k il) (hx : ls[k]? = some [(f : Int), (h : Int), y2, y3]) (hd : Dd (dl ls k) (M + 1) f d) (hi : y2 < d h) : IdP ls M (k + 1) il := by
 obtain ⟨e1, e2, e3⟩ := id_row hx;refine ⟨fun i h1 h2 => ?_, fun i h1 h2 => ?_, by have := p.len; omega, fun z hz => by have := p.rg z hz; omega⟩
 ·by_cases q : i = k
  ·subst q; have := p.rg _ h2; omega
  ·exact p.yes i (by omega) h2
 ·by_cases q : i = k
  ·subst q; exact ⟨d, by rw [e1]; exact hd, by rw [e2, e3]; exact hi⟩
  ·exact p.no i (by omega) h2
section
variable {X : FuncId -> List Value -> St -> (Value -> St -> Bool) -> Bool}
theorem Idle_s (n : Nat) (m : Int) (al : Option Addr) (cl : Nat) (ls : List (List Int)) (s : St) (hs : Wf s) (hn : 5066549580791808 <= n) (hL : RowsE s 4 al ls) : Spec Try.prog (tabK tabw) X (n + 8500) 23 [.agg ⟨[.int .i64 m, .slice al ls.length cl]⟩] s (fun v A => (¬ sysE m ls = 0 /\ v = .tuple #[.slice none 0 0, .int .i64 (sysE m ls)] /\ A = []) ∨ (sysE m ls = 0 /\ Uns ls (m.toNat + 1) /\ v = .tuple #[.slice none 0 0, .int .i64 23] /\ A = []) ∨ (sysE m ls = 0 /\ ¬ Uns ls (m.toNat + 1) /\ ∃ aI cp il UL, v = .tuple #[.slice aI il.length cp, .int .i64 0] /\ A = UL /\ IlR 3 aI il.length cp il UL /\ IdP ls m.toNat ls.length il)) := by
 refine enter bw23_at rfl hs ?_;unfold bw23;have hlen := hL.len;refine rS (kO J (a_box J J J (fun b1 => (kM J J (kM J J (Q0 (rQ (rS (kO J (U5 J (by decide) .here rfl (kO J (Y5 J J (fun s1 h1 => checkSound_s _ m al cl ls s1 h1.wf (by omega) (hL.ext hs h1.2.1)) (fun v1 A1 q1 => ?_)))))))))))));rcases q1 with ⟨hc, rfl, rfl⟩ | ⟨hc, hc2, rfl, rfl⟩ | ⟨hc, hc2, rfl, rfl⟩
 ·have hc1 := hc
  refine kM J J (Q0 (rS (kM J J (kO J (Z4 J J (fun h2 => ?_) (fun h2 => ?_))))))
  ·refine Q0 (Y0 J (rS (kM J J (kM J J (kM J J (Q0 (Z3 (V3 ?_))))))))
   exact end2 J J (.inl ⟨hc1, rfl, rfl⟩)
  ·exfalso; omega
 ·have hsys := hc
  refine kM J J (Q0 (rS (kM J J (kO J (Z4 J J (fun _ => (Q0 (Y0 J (rS (kM J J (kM J J (kM J J (Q0 (Z3 (V3 ?_)))))))))) (fun h => absurd h (by decide)))))));exact end2 J J (.inr (.inl ⟨hsys, hc2, rfl, rfl⟩))
 ·have hsys := hc
  obtain ⟨hm0, hM, h400, hlm⟩ := sysE_ok hsys;obtain ⟨M, rfl⟩ : ∃ q : Nat, m = (q : Int) := ⟨m.toNat, by omega⟩;have hM : M <= 64 := by omega
  have h400 : ls.length <= 400 := by omega
  have hun : ¬ Uns ls (M + 1) := hc2;refine kM J J (Q0 (rS (kM J J (kO J (Z4 J J (fun h => absurd h (by decide)) (fun _ => (Q0 (Z0 J (Q1 (W0 (rS (kM J J (Q0 (rQ (rS (kO J (Z2 J (kO J (Z1 J .here rfl (kO J (a_lenx J (by first | exact hL.spot | exact (fun b hb => by cases hb; rfl)) (kM J J (Q0 (Y1 ?_))))))))))))))))))))))));refine Z5 (fun j e A => ∃ (k : Nat) (aI : Option Addr) (n9 cp : Nat) (il : List Int) (UL : List Ob), e = [(1, .pointer (some ⟨b1, 0, none⟩)), (5, .slice aI n9 cp), (16, .slice al ls.length cl), (17, .int .i64 (ls.length : Int)), (18, .int .i64 (k : Int))] /\ A = (UL ++ (.row b1 29 false ([.int .i64 (M : Int), .slice al ls.length cl]) :: [])) /\ j = ls.length - k /\ k <= ls.length /\ n9 = il.length /\ IlR 3 aI n9 cp il UL /\ IdP ls M k il) 3500 1688849860263936 281474976710656 ?_ (j := _) (env2 := _) (A2 := _) ?_ ?_ ?_ ?_ ⟨0, none, 0, 0, [], [], rfl, rfl, rfl, Nat.zero_le _, rfl, (.inl ⟨rfl, rfl, rfl, rfl, rfl⟩), IdP.zero⟩
  rotate_left
  ·omega
  ·omega
  ·exact (lc 1 J (lc 5 J (lc 16 J (lc 17 J (lc 18 J Less.nil)))))
  ·exact (.q .slnil)
  rintro n hn j _ _ ⟨k, aI, n9, cp, il, UL, rfl, rfl, rfl, hk, hn9, hU, hId⟩;have hil9 := hId.len;refine rS (kO J (Q6 J J (fun h5 => ?_) (fun h5 => ?_)))
  ·obtain ⟨q4, o4, y0, y1, y2, y3, ahL, hx, hat, i0, i1, i2, i3⟩ := hL.row4 (k := k) (by omega)
   have hat2 := hat;obtain ⟨d0, d1, d2, d3, _⟩ := hat2;have hck := lmB_at hlm hx;obtain ⟨f, rfl⟩ : ∃ q : Nat, y0 = (q : Int) := ⟨y0.toNat, by omega⟩;obtain ⟨h9, rfl⟩ : ∃ q : Nat, y1 = (q : Int) := ⟨y1.toNat, by omega⟩;have hxk := hx;have hfN : f < M + 1 := by omega
   have hhN : h9 < M + 1 := by omega
   have hne : ls ≠ [] := fun e => by rw [e] at hx; cases hx
   obtain ⟨l2, hl2⟩ : ∃ l2, l2 = dl ls k := ⟨_, rfl⟩;have hn2 : l2.length + 1 = ls.length := by rw [hl2]; exact dl_len (by omega)
   have hlm2 : lmB (M : Int) l2 = true := by rw [hl2]; exact dl_lm hlm
   have hun2 : ¬ Uns l2 (M + 1) := by rw [hl2]; exact dl_uns hlm h400 hM (by omega) hun
   obtain ⟨y, hy, hyb⟩ := set_pt hlm2 (by omega) hM hun2;have hLg2 := lg_of hlm2;have hft2 : ∀ r ∈ l2, r.length = 4 /\ ∀ x ∈ r, -9223372036854775808 <= x /\ x < 9223372036854775808 := fun r hr => tl_fit hL hM r (List.mem_append_left _ (dl_mem (hl2 ▸ hr)))
   refine Q0 (rQ (Y0 J (Q1 (W0 (rQ (Y1 (rS (kM J J (kO J (a_iaA (j := k) ahL rfl rfl (by first | rfl | omega) (by first | decide | omega) (kO J (a_ldar J (by decide) (by assumption) J (kO J (a_new J J (fun b6 => (kM J J (kZ J (Q7 J J .here rfl rfl rfl rfl (Q0 (rS (kO J (Z2 J (kO J (Z1 J (.next (.app .here)) J (kO J (Y5 J J (fun s1 h1 => CloneL_n _ al cl ls s1 h1.wf (hL.ext hs h1.2.1) hne (by omega)) (fun v1 A1 q1 => ?_)))))))))))))))))))))))))));obtain ⟨bk7, rfl, rfl⟩ := q1;refine kM J J (kM J J (kO J (Q4 J J (by omega) (kG J J (a_inl J J bw49_at rfl ?_)))));unfold bw49;refine rS (kM J J (Q0 (rS (kM J J (kM J J (kM J J (kM J J (kO J (a_len J (kO J (a_sl4M (l := k) (h := k + 1) (u := ls.length) J J J J .here (by omega) (by omega) (by omega) (by show _ < 18446744073709551616; omega) (by rw [limC_len]; omega) (Q0 (rQ (rS (kM J J (kM J J (kO J (a_eql J J (fun h8 => ?_) (fun h8 => ?_)))))))))))))))))))
   ·exfalso; omega
   ·refine Q0 (Z0 J (Q1 (W0 (rS (kM J J (kO J (a_len J (kM J J (Q0 (rS (kM J J (kM J J (kO J (a_sl4T (h := k) J J .here (by rw [limC_len]; omega) (kM J J (kM J J (kO J (a_sl4F (l := k + 1) J J .here (by omega) (by rw [limC_len]; omega) (kO J (a_appD (k := k) (ls := ls) (by omega) (by omega) J J .here ?_))))))))))))))))))))
    obtain ⟨d9, hd9, hd4⟩ : ∃ d, d = (limC ls).drop ((ls.length - 1) * 4) /\ d.length = 4 := ⟨_, rfl, by rw [List.length_drop, limC_len]; omega⟩;rw [<- hd9, <- hl2, show ls.length - 1 = l2.length by omega];refine kM J J (Q0 (rS (kM J J (kM J J (kO J (a_len J (kM J J (kO J (a_sl4B (l := l2.length) (h := ls.length) J J J .here (by omega) (by rw [List.length_append, limC_len, hd4]; omega) (kZ J (a_clrD (l2 := l2) hn2.symm hd4 rfl rfl .here (Q0 (rS (kM J J (kM J J (Q0 (Z3 (endD1 J .nil (kM J J (Q0 (rS (kO J (Z2 J (kO J (Z1 J (.next (.next (.app .here))) J (kM J J (kO J (Z7 J J (kO J (Y5 J J (fun s1 h1 => newFlow_g _ M _ OPEN l2.length l2 s1 h1.wf (by omega) (rows_ownP hLg2 (by omega) hft2 (h1.own .here)) hM (by omega) hLg2 rfl) (fun v1 A1 q1 => ?_)))))))))))))))))))))))))))))));obtain ⟨bf9, bt10, bn11, O, B, rfl, rfl, hO⟩ := q1;rw [List.append_assoc, List.cons_append, List.cons_append, List.cons_append, List.nil_append];refine kM J J (Q0 (rS (kM J J (kO J (Z2 J (kO J (Z1 J (.app (.next (.next (.next (.next .here))))) J (kO J (Z2 J (kO J (Z1 J (.app (.next (.next (.next (.next .here))))) J (kO J (Z2 J (kO J (Z1 J (.app (.next (.next (.next (.next .here))))) J (kG J J (a_inl J J bw39_at rfl ?_)))))))))))))))));unfold bw39;refine rS (kM J J (Q0 (rS (kO J (a_lit J J J (fun b12 => (kM J J (kO J (Q5 J (kO J (Z2 J (kO J (Z2 J (kO J (Z1 J (.next (.app .here)) J (kO J (Q4 J J (by omega) (kO J (Y5 J J (fun s1 h1 => Repeat_s _ _ _ (M + 1) s1 h1.wf (by omega) (h1.own .here).all (by omega)) (fun v1 A1 q1 => ?_))))))))))))))))))));obtain ⟨bx13, rfl, rfl⟩ := q1;refine kM J J (Q0 (rS (kM J J (kO J (Q5 J (kO J (Z2 J (kO J (Z2 J (kO J (Z1 J (.next (.next (.app .here))) J (kO J (Q4 J J (by omega) (kO J (a_mks5 (m := M + 1) (c := M + 1) J J (by omega) (by omega) (by omega) rep5 (fun b14 => (kM J J (Q0 (rS (kM J J (kM J J (kO J (Y4 (j := f) J J (by omega) (by omega) (kZ J (W8 J J (.next .here) (by first | omega | (simp; done) | (simp [wlen]; omega) | (simp; omega)) (Q0 (rQ (Y1 ?_))))))))))))))))))))))))))));rw [rep_set, cvs_zero (N := M + 1)];refine Z5 (fun j e A => ∃ (g : Fs), e = [(0, .pointer (some ⟨bf9, 0, none⟩)), (5, .slice (some ⟨bx13, 0, none⟩) (M + 1) (M + 1)), (6, .slice (some ⟨b14, 0, none⟩) (M + 1) (M + 1))] /\ A = (.row b14 115 false (cvs (g).c (M + 1)) :: (.row bx13 3 false (ints (xs (g).x (M + 1))) :: (nobj B (nl l2 l2.length) O ++ (.row bf9 93 false ([.int .i64 (M : Int), .slice (some ⟨bk7, 0, none⟩) l2.length OPEN, .slice (some ⟨bt10, 0, none⟩) l2.length l2.length, .slice (some ⟨bn11, 0, none⟩) (M + 1) (M + 1)]) :: (.row bn11 25 false (nsl B (nl l2 l2.length) (M + 1)) :: (.row bt10 3 false (ints (List.replicate l2.length 0)) :: (.row bk7 38 true (limC l2 ++ [.int .i64 0, .int .i64 0, .int .i64 0, .int .i64 0]) :: (.row b6 38 false ([.int .i64 (f : Int), .int .i64 (h9 : Int), .int .i64 y2, .int .i64 y3]) :: (UL ++ (.row b1 29 false ([.int .i64 (M : Int), .slice al ls.length cl]) :: [])))))))))) /\ j = (tot g.x (M + 1) + 100000000000).toNat /\ Dv l2 (M + 1) f g) 2000 1125899906842624 281474976710656 ?_ (j := _) (env2 := _) (A2 := _) ?_ ?_ ?_ ?_ ⟨⟨W2 (fun _ => 1000000000) f 0, fun _ => (0, 0, 0, 0), -1⟩, rfl, rfl, rfl, (Dv.zero (by omega))⟩
    rotate_left
    ·omega
    ·have := (Dv.zero (ls := l2) (N := M + 1) (f := f) (by omega)).tot_hi (by omega); omega
    ·exact (lc 0 J (lc 5 J (lc 6 J Less.nil)))
    ·exact (.q (.q (.cons _ (.r (.q (.q (.q (.q (.q (.r (.q .slnil)))))))))))
    rintro n hn j _ _ ⟨g, rfl, rfl, rfl, hdv0⟩;refine rQ (rS (kM J J (kM J J (kM J J (kG J J (a_inl J J bw63_at rfl ?_))))));unfold bw63;refine rS (kO J (a_box J J J (fun b15 => (kO J (a_box J J J (fun b16 => (kM J J (Q0 (rS (kO J (a_new J J (fun b17 => (kZ J (a_st J J .here rfl rfl (Q0 (rQ (rS (kM J J (kO J (Q5 J (kO J (Z2 J (kO J (Z2 J (kO J (Z1 J (.next (.next (.next (.next (.next (.app .here)))))) J (kO J (Q4 J J (by omega) (kM J J (Q0 (Y1 ?_)))))))))))))))))))))))))))))));refine r_loopD (fun j e D A => ∃ (v : Nat) (qs : List Nat), qs = D /\ e = [(0, .pointer (some ⟨bf9, 0, none⟩)), (4, .pointer (some ⟨b15, 0, none⟩)), (5, .pointer (some ⟨b16, 0, none⟩)), (7, .pointer (some ⟨b17, 0, none⟩)), (16, .int .i64 ((M : Int) + 1)), (17, .int .i64 (v : Int))] /\ A = (qs.map Ob.dfr ++ (.row b17 3 false ([.int .i64 (lwS l2 (st0 g) v).l]) :: (.row b16 97 false ([.slice (some ⟨b14, 0, none⟩) (M + 1) (M + 1)]) :: (.row b15 25 false ([.slice (some ⟨bx13, 0, none⟩) (M + 1) (M + 1)]) :: (.row b14 115 false (cvs (lwS l2 (st0 g) v).c (M + 1)) :: (.row bx13 3 false (ints (xs (lwS l2 (st0 g) v).x (M + 1))) :: (nobj B (nl l2 l2.length) O ++ (.row bf9 93 false ([.int .i64 (M : Int), .slice (some ⟨bk7, 0, none⟩) l2.length OPEN, .slice (some ⟨bt10, 0, none⟩) l2.length l2.length, .slice (some ⟨bn11, 0, none⟩) (M + 1) (M + 1)]) :: (.row bn11 25 false (nsl B (nl l2 l2.length) (M + 1)) :: (.row bt10 3 false (ints (List.replicate l2.length 0)) :: (.row bk7 38 true (limC l2 ++ [.int .i64 0, .int .i64 0, .int .i64 0, .int .i64 0]) :: (.row b6 38 false ([.int .i64 (f : Int), .int .i64 (h9 : Int), .int .i64 y2, .int .i64 y3]) :: (UL ++ (.row b1 29 false ([.int .i64 (M : Int), .slice al ls.length cl]) :: [])))))))))))))) /\ j = M + 1 - v /\ v <= M + 1) 1200 562949953421312 281474976710656 ?_ (j := _) (env2 := _) (A2 := _) ?_ ?_ ?_ ?_ ⟨0, [], rfl, rfl, rfl, rfl, Nat.zero_le _⟩
    rotate_left
    ·omega
    ·omega
    ·exact (lc 0 J (lc 4 J (lc 5 J (lc 7 J (lc 16 J (lc 17 J Less.nil))))))
    ·exact (.q (.q (.q (.q (.q (.r (.q (.q (.q (.q (.q (.r (.q .slnil)))))))))))))
    rintro n hn j _ _ _ ⟨v, qs, rfl, rfl, rfl, rfl, hv⟩;have hnl9 := nl_le (ls := l2) l2.length v;have hdv1 := (Dv.lws hlm2 hM hdv0.st0 (v := v) (by omega)).1;refine rS (kO J (Q6 J J (fun h18 => ?_) (fun h18 => ?_)))
    ·refine Q0 (rQ (Y0 J (Q1 (W0 (rQ (Y1 (rS (kM J J (kO J (a_new J J (fun b19 => (kZ J (a_st J J .here rfl rfl (Q0 (rQ (rS (kO J (Z1 J (.next (.app (.next (.next .here)))) J (kO J (Z1 J .here rfl (kO J (Y4 (j := v) J J (by omega) (by omega) (kO J (V5 (x := ((lwS l2 (st0 g) v).x) (v)) J (.next (.app (.next (.next (.next (.next .here)))))) (by rw [W4]; omega) (V4 (by omega)) (kO J (a_eql J J (fun h20 => ?_) (fun h20 => ?_)))))))))))))))))))))))))))
     ·refine Q0 (Y0 J (W5 (W3 (U3 (W0 (rI (kO J (Q4 J J (by omega) (kM J J (Q0 (W0 ?_)))))))))))
      exact ⟨_, _, _, (show M + 1 - (v + 1) < M + 1 - v by omega), (lc 0 J (lc 4 J (lc 5 J (lc 7 J (lc 16 J (lc 17 J Less.nil)))))), (.cons _ (.r (.q (.q (.q (.q (.q (.r (.q (.q (.q (.q (.q (.r (.q .slnil))))))))))))))), ⟨v + 1, qs, rfl, rfl, (by rw [lws_free (by assumption)]), rfl, by omega⟩⟩
     ·have hfr9 := h20
      refine Q0 (Z0 J (Q1 (W0 (rS (kM J J (kO J (Z1 J .here rfl (kG J J (a_inl J J bw79_at rfl ?_)))))))));unfold bw79;refine rS (kO J (a_box J J J (fun b21 => (kO J (a_box J J J (fun b22 => (kM J J (Q0 (rS (kO J (a_fn J J (kM J J (Q0 (Z3 (endD1 J .nil (Q0 (Y1 (r_rangeV J bw88_at rfl (fun q23 l24 LO25 BO26 hLO25 hBO26 => ?_)))))))))))))))))));unfold bw88;refine rS (kO J (Z1 J (.next (.next (.next .here))) J (kO J (Q5 J (kO J (Z2 J (kO J (Z1 J (.next (.next (.next (.next (.next (.app (.next (.next (.next (.next (.next (.app .here)))))))))))) J (kO J (Z1 J (.next (.next .here)) J (kO J (Y4 (j := v) J J (by omega) (by omega) (kO J (Z1 J (.next (.next (.next (.next (.next (.app (.next (.next (.next (.next (.next (.app (.next .here))))))))))))) (nsl_get (by omega)) (kO J (a_lenN J (kM J J (Q0 (Y1 ?_)))))))))))))))))));refine Z5 (fun j e A => ∃ (q : Nat), e = [(0, .func (.yield l24) ⟨[]⟩ ⟨[]⟩), (1, .pointer (some ⟨b21, 0, none⟩)), (2, .pointer (some ⟨b22, 0, none⟩)), (14, nsv B (nl l2 l2.length) v), (15, .int .i64 ((nl l2 l2.length v).length : Int)), (16, .int .i64 (q : Int))] /\ A = (LO25 :: (.dfr q23 :: (.row b22 3 false ([.int .i64 (v : Int)]) :: (.row b21 61 false ([.pointer (some ⟨bf9, 0, none⟩)]) :: (.row b19 3 false ([.int .i64 (v : Int)]) :: (qs.map Ob.dfr ++ (.row b17 3 false ([.int .i64 (rwS l2 (lwS l2 (st0 g) v) v q).l]) :: (.row b16 97 false ([.slice (some ⟨b14, 0, none⟩) (M + 1) (M + 1)]) :: (.row b15 25 false ([.slice (some ⟨bx13, 0, none⟩) (M + 1) (M + 1)]) :: (.row b14 115 false (cvs (rwS l2 (lwS l2 (st0 g) v) v q).c (M + 1)) :: (.row bx13 3 false (ints (xs (rwS l2 (lwS l2 (st0 g) v) v q).x (M + 1))) :: (nobj B (nl l2 l2.length) O ++ (.row bf9 93 false ([.int .i64 (M : Int), .slice (some ⟨bk7, 0, none⟩) l2.length OPEN, .slice (some ⟨bt10, 0, none⟩) l2.length l2.length, .slice (some ⟨bn11, 0, none⟩) (M + 1) (M + 1)]) :: (.row bn11 25 false (nsl B (nl l2 l2.length) (M + 1)) :: (.row bt10 3 false (ints (List.replicate l2.length 0)) :: (.row bk7 38 true (limC l2 ++ [.int .i64 0, .int .i64 0, .int .i64 0, .int .i64 0]) :: (.row b6 38 false ([.int .i64 (f : Int), .int .i64 (h9 : Int), .int .i64 y2, .int .i64 y3]) :: (UL ++ (.row b1 29 false ([.int .i64 (M : Int), .slice al ls.length cl]) :: []))))))))))))))))))) /\ j = (nl l2 l2.length v).length - q /\ q <= (nl l2 l2.length v).length) 800 281474976710656 281474976710656 ?_ (j := _) (env2 := _) (A2 := _) ?_ ?_ ?_ ?_ ⟨0, rfl, rfl, rfl, Nat.zero_le _⟩
      rotate_left
      ·omega
      ·omega
      ·exact (lc 0 J (lc 1 J (lc 2 J (lc 14 J (lc 15 J (lc 16 J Less.nil))))))
      ·exact (.q (.q (.q (.q (.q (.r (.q (.q (.q (.q (.q (.r (.q (.q (.q (.q (.q (.r (.q .slnil)))))))))))))))))))
      rintro n hn j _ _ ⟨q, rfl, rfl, rfl, hq⟩;refine rS (kO J (Q6 J J (fun h27 => ?_) (fun h27 => ?_)))
      ·have hq9 : q < (nl l2 l2.length v).length := by omega
       obtain ⟨li, hi0, hil, hnam⟩ := nl_mem hq9;obtain ⟨hg1, hg2, hg3, hg4, hg5, z9, hz9⟩ := hLg2 li hil;obtain ⟨y4, y5, y6, y7, hx⟩ : ∃ y4 y5 y6 y7 : Int, l2[li]? = some [y4, y5, y6, y7] := ⟨_, _, _, _, hz9⟩;have hc4 := lmB_at hlm2 hx;have hnm := nam_of hnam hx;clear hz9 hg1 hg2 hg3 hg4 hg5;obtain ⟨u0, rfl⟩ : ∃ q : Nat, y4 = (q : Int) := ⟨y4.toNat, by omega⟩;obtain ⟨u1, rfl⟩ : ∃ q : Nat, y5 = (q : Int) := ⟨y5.toNat, by omega⟩;refine Q0 (rQ (Y0 J (Q1 (W0 (rQ (Y1 (rS (kO J (a_iaN (j := q) J J (by omega) (by omega) (kO J (V5 (x := (li : Int)) J (.next (.next (.next (.next (.next (.app (.next (.next (.next (.next (.next (own_nobj ((hO.2 _ (by omega)).2 (fun e => by rw [e] at hq9; exact absurd hq9 (Nat.not_lt_zero _))))))))))))))) (by omega) hi0 (kM J J (Q0 (rS (kO J (Z1 J (.next (.next (.next .here))) J (kO J (Q5 J (kO J (Z2 J (kO J (Z2 J (kO J (Z1 J (.next (.next (.next (.next (.next (.app (.next (.next (.next (.next (.next (.app .here)))))))))))) J (kM J J (kO J (Y4 (j := li) J J (by omega) (by omega) (kO J (U5 J (by decide) (.next (.next (.next (.next (.next (.app (.next (.next (.next (.next (.next (.app (.next (.next (.next .here))))))))))))))) (limC_segP hx) (kO J (a_new J J (fun b28 => (kZ J (Q7 J J .here rfl rfl rfl rfl (Q0 ?_)))))))))))))))))))))))))))))))))));refine rS (kM J J (kO J (Z1 J (.next (.next (.next .here))) J (kO J (Z2 J (kO J (Z1 J .here rfl (kO J (Z2 J (kO J (Z1 J .here rfl (kO J (Z7 J J (kO J (a_new J J (fun b29 => (kZ J (Q7 J J .here rfl rfl rfl rfl (Q0 (rQ (rS (kO J (Z2 J (kO J (Z1 J (.next .here) J (kO J (Z1 J (.next (.next (.next (.next .here)))) J (kO J (a_eql J J (fun h30 => ?_) (fun h30 => ?_))))))))))))))))))))))))))))))
       ·have hu1 : v = u1 := by omega
        subst hu1;have hb9 := hx;refine Q0 (Y0 J (rI (kM J J (kO J (Z1 J (.next (.next (.next (.next .here)))) J (kO J (Z2 J (kO J (Z1 J (.next .here) J (kO J (Z2 J (kO J (Z1 J (.next .here) J (kO J (a_neg J (by omega) (kO J (Z7 J J (kZ J (Q7 J J .here rfl rfl rfl rfl (Q0 (W0 (rQ (rS (kO J (Z2 J (kO J (Z1 J .here rfl (kM J J (kG J J (Z1 J (.next (.next (.next (.next (.next .here))))) J (kG J J (Q5 J (kG J J (Z2 J (kG J J (Z1 J (.next (.next (.next (.next (.next (.next (.next (.app (.next (.next (.next (.next (.next (.app .here)))))))))))))) J (kG J J (Y3 J ?_))))))))))))))))))))))))))))))))))))));refine kG J J (Y4 (j := li) J J (by omega) (by omega) (kG J J (V5 (x := 0) J (.next (.next (.next (.next (.next (.next (.next (.app (.next (.next (.next (.next (.next (.app (.next (.next .here)))))))))))))))) (by rw [List.length_replicate]; omega) rep_get (kG J J (a_eql J J (fun _ => (kO J (Q3 J J J (Q0 (Y0 J (W5 (W3 (U3 (W0 (rI (kO J (Q4 J J (by omega) (kM J J (Q0 (W0 ?_))))))))))))))) (fun h => absurd h (by decide)))))));exact ⟨rfl, _, _, _, (show (nl l2 l2.length v).length - (q + 1) < (nl l2 l2.length v).length - q by omega), (lc 0 J (lc 1 J (lc 2 J (lc 14 J (lc 15 J (lc 16 J Less.nil)))))), (.cons _ (.cons _ (.q (.q (.q (.q (.q (.r (.q (.q (.q (.q (.q (.r (.q (.q (.q (.q (.q (.r (.q .slnil))))))))))))))))))))), ⟨q + 1, rfl, (by first | (rw [rws_back hi0 hb9]; done) | (rw [rws_less hi0 hx hnb9 hls9]; done) | (rw [rws_less hi0 hx hnb9 hls9]; rfl) | (rw [rws_more hi0 hx hgr9]; done)), rfl, by omega⟩⟩
       ·have hnb9 := h30
        refine Q0 (Z0 J (Q1 (W0 (rQ (rS (kO J (Z2 J (kO J (Z1 J .here rfl (kM J J (U0 J J (U0 J J (U0 J J (U0 J J (U0 J J (U0 J J (U0 J J (U0 J J (kO J (V1 J J J (Q0 (Z0 J (Q1 (W0 (rS (kM J J ?_))))))))))))))))))))))))));refine kO J (U5 J (by decide) .here rfl (kG J J (a_yieldV J J hLO25 hBO26 (by simp) J J (rI (kO J (a_new J J (fun b32 => (kZ J (Q7 J J .here rfl rfl rfl rfl (Q0 (⟨_, (.next (.next (.next .here))), (Y1 (rS (kO J (Z1 J (.next (.next (.next (.next (.next (.next (.next (.next (.app (.next (.next .here))))))))))) J (kO J (Z1 J (.next (.next (.next (.next (.next (.next (.next .here))))))) J (kO J (Y4 (j := v) J J (by omega) (by omega) (kO J (V5 (x := ((rwS l2 (lwS l2 (st0 g) v) v q).x) (v)) J (.next (.next (.next (.next (.next (.next (.next (.next (.app (.next (.next (.next (.next .here))))))))))))) (by rw [W4]; omega) (V4 (by omega)) (kO J (Z2 J (kO J (Z1 J .here rfl ?_))))))))))))))⟩)))))))))));have hdq := Dv.rws hlm2 hM (by omega) hfr9 hdv1 (q := q) (by omega);have hb1 := hdq.1.hi (by omega) (a := v) (by omega);have hb2 := hdq.1.lo hy hyb (by omega) (a := v) (by omega);have hb3 := hdq.2.1;refine kO J (Q4 J J (by omega) (kM J J (Q0 (rS (kM J J (kO J (Z1 J (.next (.next (.next (.next (.next (.next (.next (.next (.app (.next (.next .here))))))))))) J (kO J (Z2 J (kO J (Z1 J .here rfl (kO J (Y4 (j := u1) J J (by omega) (by omega) (kO J (V5 (x := ((rwS l2 (lwS l2 (st0 g) v) v q).x) (u1)) J (.next (.next (.next (.next (.next (.next (.next (.next (.app (.next (.next (.next (.next .here))))))))))))) (by rw [W4]; omega) (V4 (by omega)) (kO J (Q6 J J (fun h33 => ?_) (fun h33 => ?_))))))))))))))))))
        ·have hls9 := h33
         refine Q0 (Y0 J (rI (kO J (Z1 J (.next (.next (.next (.next (.next (.next (.next (.next (.app (.next (.next .here))))))))))) J (kO J (Z2 J (kO J (Z1 J .here rfl (kO J (Z1 J (.next (.next (.next (.next (.next (.next (.next (.next (.app (.next .here)))))))))) J (kO J (Z2 J (kO J (Z1 J .here rfl (kM J J (kO J (U5 J (by decide) .here rfl (kO J (Z2 J (kO J (Z1 J .here rfl (kO J (Y4 (j := u1) J J (by omega) (by omega) (kZ J (W8 J J (by rw [xs_set]; exact (.next (.next (.next (.next (.next (.next (.next (.next (.app (.next (.next (.next (.next .here)))))))))))))) (by rw [W4]; omega) (kZ J (a_again J J .here rfl (by simp [eqV, eqA, eqL, kindEq, intEq_eq, V6 hL.spot]) (kZ J (a_againa J J (by decide) .here rfl (by simp [eqL, eqV, eqA, kindEq, intEq_eq, V6 hL.spot]) (kZ J (a_again J J .here rfl (by simp [eqV, eqA, eqL, kindEq, intEq_eq, V6 hL.spot]) (kZ J (a_again J J (.next (.next (.next (.next (.next (.next (.next (.next (.app (.next .here)))))))))) J (by simp [eqV, eqA, eqL, kindEq, intEq_eq, V6 hL.spot]) (kO J (Y4 (j := u1) J J (by omega) (by omega) (kZ J (Q7 J J (.next (.next (.next (.next (.next (.next (.next (.next (.app (.next (.next (.next .here)))))))))))) (cam_over (p := (_, _, _, _)) (by omega)) (by rw [Nat.ble_eq, cvs_len]; omega) J J (kZ J (a_again J J .here rfl (by simp [eqV, eqA, eqL, kindEq, intEq_eq, V6 hL.spot]) (kZ J (a_st J J (.next (.next (.next (.next (.next (.next (.next (.next (.app .here))))))))) J J (Q0 ?_))))))))))))))))))))))))))))))))))))))))));refine U1 (⟨_, (.next (.next (.next .here))), (kO J (U7 J (Q0 (Z0 J (Q1 (U1 (W0 (rI (kO J (Q4 J J (by omega) (kM J J (Q0 (W0 ?_)))))))))))))⟩);exact ⟨rfl, _, _, _, (show (nl l2 l2.length v).length - (q + 1) < (nl l2 l2.length v).length - q by omega), (lc 0 J (lc 1 J (lc 2 J (lc 14 J (lc 15 J (lc 16 J Less.nil)))))), (.cons _ (.cons _ (.cons _ (.q (.q (.q (.q (.q (.r (.q (.q (.q (.q (.q (.r (.q (.q (.q (.q (.q (.r (.q .slnil)))))))))))))))))))))), ⟨q + 1, rfl, (by first | (rw [rws_back hi0 hb9]; done) | (rw [rws_less hi0 hx hnb9 hls9]; done) | (rw [rws_less hi0 hx hnb9 hls9]; rfl) | (rw [rws_more hi0 hx hgr9]; done)), rfl, by omega⟩⟩
        ·have hgr9 := h33
         refine Q0 (Z0 J (Q1 (U1 (⟨_, (.next (.next (.next .here))), (kO J (U7 J (Q0 (Z0 J (Q1 (U1 (W0 (rI (kO J (Q4 J J (by omega) (kM J J (Q0 (W0 ?_)))))))))))))⟩))));exact ⟨rfl, _, _, _, (show (nl l2 l2.length v).length - (q + 1) < (nl l2 l2.length v).length - q by omega), (lc 0 J (lc 1 J (lc 2 J (lc 14 J (lc 15 J (lc 16 J Less.nil)))))), (.cons _ (.cons _ (.cons _ (.q (.q (.q (.q (.q (.r (.q (.q (.q (.q (.q (.r (.q (.q (.q (.q (.q (.r (.q .slnil)))))))))))))))))))))), ⟨q + 1, rfl, (by first | (rw [rws_back hi0 hb9]; done) | (rw [rws_less hi0 hx hnb9 hls9]; done) | (rw [rws_less hi0 hx hnb9 hls9]; rfl) | (rw [rws_more hi0 hx hgr9]; done)), rfl, by omega⟩⟩
      ·have hql : q = (nl l2 l2.length v).length := by omega
       subst hql;refine Q0 (rQ (Z0 J (W5 (W3 (W3 (U3 (endD0n .nil (.inl ⟨_, .here, (U1 (U1 (W0 (rI (kO J (Q4 J J (by omega) (kM J J (Q0 (W0 ?_)))))))))⟩))))))));exact ⟨_, _, _, (show M + 1 - (v + 1) < M + 1 - v by omega), (lc 0 J (lc 4 J (lc 5 J (lc 7 J (lc 16 J (lc 17 J Less.nil)))))), (.q (.cons _ (.cons _ (.cons _ (.r (.q (.q (.q (.q (.q (.r (.q (.q (.q (.q (.q (.r (.q .slnil)))))))))))))))))), ⟨v + 1, q23 :: qs, rfl, rfl, (by rw [lws_go (by assumption)]; rfl), rfl, by omega⟩⟩
    ·have hvN : v = M + 1 := by omega
     subst hvN;refine Q0 (rQ (Z0 J (W5 (W3 (W3 (U3 (W0 (rS (kO J (Z1 J (.app .here) J (kM J J (Q0 (Z3 (endD1 J deld_map (kO J (Z4 J J (fun h34 => ?_) (fun h34 => ?_)))))))))))))))))
     ·have hne9 := h34
      refine Q0 (Y0 J (Q1 (W0 (Y1 (Q1 (U1 (W0 ?_)))))));have hd1 := Dv.lws hlm2 hM hdv0.st0 (v := M + 1) (Nat.le_refl _);have htl : tot (lwS l2 (st0 g) (M + 1)).x (M + 1) < tot g.x (M + 1) := hd1.2.resolve_left (fun e => hne9 (by rw [e]; rfl));have htb := hd1.1.tot_lo hy hyb (by omega);exact ⟨rfl, _, _, _, (show (tot (lwS l2 (st0 g) (M + 1)).x (M + 1) + 100000000000).toNat < (tot g.x (M + 1) + 100000000000).toNat by omega), (lc 0 J (lc 5 J (lc 6 J Less.nil))), (.cons _ (.cons _ (.cons _ (.q (.q (.r (.q (.q (.q (.q (.q (.r (.q .slnil))))))))))))), ⟨lwS l2 (st0 g) (M + 1), rfl, rfl, rfl, hd1.1⟩⟩
     ·obtain ⟨he9, hdd⟩ := dd_of hlm2 hM (by omega) hy hdv0 h34
      rw [he9];refine Q0 (Z0 J (W5 (W3 (W3 (U3 (W0 (rS (kM J J (kM J J (Q0 (Z3 (endD1 J .nil (kZ J (a_again J J (.next (.next (.next (.next (.next (.app (.next (.next (.next (.next .here)))))))))) J (by simp [eqV, eqA, eqL, kindEq, intEq_eq, V6 hL.spot]) (kZ J (a_again J J (.next (.next (.next (.next (.next (.app (.next (.next (.next (.next .here)))))))))) J (by simp [eqV, eqA, eqL, kindEq, intEq_eq, V6 hL.spot]) (kO J (Y4 (j := h9) J J (by omega) (by omega) (kO J (V5 (x := (g.x) (h9)) J (.next (.next (.next (.next .here)))) (by rw [W4]; omega) (V4 (by omega)) (kO J (a_leq J J (fun h35 => ?_) (fun h35 => ?_)))))))))))))))))))))))
      ·refine Q0 (Y0 J (rI (kM J J (kM J J (kO J (a_lit J J J (fun b36 => (kO J (a_appIC hU (.next (.next (.next (.next (.next (.next (.app (.next (.next (.next (.next (.next .here)))))))))))) J J (Src.own .here rfl (by simp)) (by decide) (by omega) (by omega) (fun b37 => (kM J J (Q0 (U1 (W0 (rI (kO J (Q4 J J (by omega) (kM J J (Q0 (W0 ?_))))))))))))))))))))
       exact ⟨rfl, _, _, _, (show ls.length - (k + 1) < ls.length - k by omega), (lc 1 J (lc 5 J (lc 16 J (lc 17 J (lc 18 J Less.nil))))), (.q (.cons _ (.cons _ (.cons _ (.cons _ (.cons _ (.cons _ (List.sublist_append_of_sublist_right (.cons _ (.cons _ (.cons _ (.cons _ (.cons _ (.q .slnil)))))))))))))), ⟨k + 1, some ⟨b37, 0, none⟩, n9 + 1, OPEN, il ++ [(k : Int)], [.row b37 3 true (ints (il ++ [(k : Int)]))], rfl, (by rw [snoc1]; rfl), rfl, (by omega), (by rw [List.length_append, hn9]; rfl), (.inr ⟨_, _, rfl, by omega, by rw [List.length_append, hn9]; rfl, .inl ⟨rfl, rfl⟩, rfl⟩), (hId.add hxk (hl2 ▸ hdd) (by omega))⟩⟩
      ·refine Q0 (Z0 J (Q1 (U1 (W0 (rI (kO J (Q4 J J (by omega) (kM J J (Q0 (W0 ?_))))))))))
       exact ⟨rfl, _, _, _, (show ls.length - (k + 1) < ls.length - k by omega), (lc 1 J (lc 5 J (lc 16 J (lc 17 J (lc 18 J Less.nil))))), (.cons _ (.cons _ (.cons _ (.cons _ (.cons _ (List.sublist_append_of_sublist_right (.cons _ (.cons _ (.cons _ (.cons _ (.cons _ (.r (.q .slnil))))))))))))), ⟨k + 1, aI, n9, cp, il, UL, rfl, rfl, rfl, (by omega), hn9, hU, (hId.skip hxk (hl2 ▸ hdd) (by omega))⟩⟩
  ·refine Q0 (rQ (Z0 J (W5 (W3 (W3 (U3 (W0 (rS (kM J J (kM J J (kM J J (Q0 (Z3 ?_)))))))))))))
   have hkl : k = ls.length := by omega
   subst hkl hn9;exact end2A J J (.r (.cons _ .slnil)) (.inr (.inr ⟨hsys, hc2, aI, cp, il, UL, rfl, List.append_nil _, hU, hId⟩))
theorem Range_v (n : Nat) (M : Nat) (al : Option Addr) (cl : Nat) (ls : List (List Int)) (aw : Option Addr) (cw : Nat) (w : List Int) (s : St) (hs : Wf s) (hn : 7318349394477056 <= n) (hL : RowsE s 4 al ls) (hcl : al = none -> cl = 0) (hW : IntsE s aw w) (hCap : CapOk s aw (M + 1) cw) (hsys : sysE (M : Int) ls = 0) (hwl : w.length = M + 1) (hwo : WOk w w.length) : Spec Try.prog (tabK tabw) X (n + 11000) 13 [.agg ⟨[.int .i64 (M : Int), .slice al ls.length cl]⟩, .slice aw (M + 1) cw] s (fun v A => (Uns ls (M + 1) /\ v = .tuple #[.int .i64 0, .int .i64 0, .int .i64 23] /\ A = []) ∨ (¬ Uns ls (M + 1) /\ (Opn ls (M + 1) (du0 w M) ∨ Opn ls (M + 1) (du0 (NG w) M)) /\ v = .tuple #[.int .i64 0, .int .i64 0, .int .i64 22] /\ A = []) ∨ (¬ Uns ls (M + 1) /\ ∃ t p t2 p2, Opt ls (M + 1) (du0 w M) t p /\ Opt ls (M + 1) (du0 (NG w) M) t2 p2 /\ tot t ls.length <= 230400000000000 /\ tot t2 ls.length <= 230400000000000 /\ v = .tuple #[.int .i64 (-(tot (fun i => t2 i * lw ls i) ls.length)), .int .i64 (tot (fun i => t i * lw ls i) ls.length), .int .i64 0] /\ A = [])) := by
 have h := Range_s n (M : Int) al cl ls aw cw w s hs hn hL hcl hW (by rw [hwl]; exact hCap) (X := X);rw [hwl] at h;have hww : (((M + 1 : Nat) : Int) = (M : Int) + 1 /\ WOk w (M + 1)) := ⟨by omega, by rw [<- hwl]; exact hwo⟩;refine h.imp (fun v A q => ?_);rcases q with ⟨e, _, _, q1, _, _, q2⟩ | ⟨_, _, q1, q2⟩ | ⟨_, _, q1, q2⟩
 ·obtain ⟨rfl, q3⟩ := q1 hsys hww
  exact .inl ⟨q3, q2⟩
 ·exact .inr (.inl ⟨q1, q2⟩)
 ·exact .inr (.inr ⟨q1, q2⟩)
end
def TlO (TT : Nat) (a : Option Addr) (n c : Nat) (ts : List (List Int)) (TL : List Ob) : Prop := (a = none /\ n = 0 /\ c = 0 /\ ts = [] /\ TL = []) ∨ ∃ b, a = some ⟨b, 0, none⟩ /\ 0 < n /\ ts.length = n /\ c = OPEN /\ TL = [.row b TT true (limC ts)]
theorem TlO.tlr {TT : Nat} {a : Option Addr} {n c : Nat} {ts : List (List Int)} {TL : List Ob} (h : TlO TT a n c ts TL) : TlR TT a n c ts TL := by
 rcases h with h | ⟨b, h1, h2, h3, h4, h5⟩
 ·exact .inl h
 ·exact .inr ⟨b, true, h1, h2, h3, .inl ⟨rfl, h4⟩, h5⟩
theorem TlO.own {TT : Nat} {a : Option Addr} {n c : Nat} {ts : List (List Int)} {TL : List Ob} (h : TlO TT a n c ts TL) (h0 : 0 < n) : ∃ b, a = some ⟨b, 0, none⟩ /\ c = OPEN /\ ∀ R, Own (TL ++ R) b TT true (limC ts) := by
 rcases h with ⟨_, h, _⟩ | ⟨b, h1, h2, h3, h4, h5⟩
 ·omega
 ·exact ⟨b, h1, h4, fun R => by rw [h5]; exact .here⟩
def TlQ (TT : Nat) (a : Option Addr) (n c : Nat) (ts : List (List Int)) (U : List Ob) : Prop := ∃ b, a = some ⟨b, 0, none⟩ /\ ts.length = n /\ ((n = 0 /\ c = 0 /\ U = [.row b TT false []]) ∨ (0 < n /\ c = OPEN /\ U = [.row b TT true (limC ts)]))
theorem TlQ.rows {TT : Nat} {s0 s : St} {a : Option Addr} {n c M : Nat} {ts : List (List Int)} {TL A : List Ob} (h : TlQ TT a n c ts TL) (hA : TL.Sublist A) (hs : Hld s0 A s) (hg : Lg M ts) (hM : M <= 64) (hn : ts.length < 140737488355328) (hf : ∀ r ∈ ts, r.length = 4 /\ ∀ x ∈ r, -9223372036854775808 <= x /\ x < 9223372036854775808) : RowsE s 4 a ts := by
 obtain ⟨b, rfl, hl, ⟨rfl, _, _⟩ | ⟨h0, _, h2⟩⟩ := h
 ·obtain rfl := List.eq_nil_of_length_eq_zero hl
  exact ⟨fun c hc => by cases hc; rfl, fun e => absurd rfl e, fun b o hb i r hr => (by simp at hr), fun r hr => (by cases hr), fun r hr => (by cases hr), (by simp)⟩
 ·exact rows_own hg hM hn hf ((hs.sub hA).own (by rw [h2]; exact .here))
theorem TlQ.ncl {TT : Nat} {a : Option Addr} {n c : Nat} {ts : List (List Int)} {TL : List Ob} (h : TlQ TT a n c ts TL) : a = none -> c = 0 := fun e => by
 obtain ⟨b, q, _⟩ := h;rw [e] at q; cases q
theorem IlR.spot {TT : Nat} {a : Option Addr} {n c : Nat} {l : List Int} {TL : List Ob} (h : IlR TT a n c l TL) : ∀ b, a = some b -> b.spot = none := fun b hb => by
 rcases h with ⟨rfl, _⟩ | ⟨b', op, rfl, _⟩
 ·cases hb
 ·cases hb; rfl
theorem IlR.rows {TT : Nat} {s0 s : St} {a : Option Addr} {n c : Nat} {l : List Int} {TL A : List Ob} (h : IlR TT a n c l TL) (hA : TL.Sublist A) (hs : Hld s0 A s) (hf : ∀ x ∈ l, -9223372036854775808 <= x /\ x < 9223372036854775808) (hl : l.length < 140737488355328) : IntsE s a l := by
 rcases h with ⟨rfl, _, _, rfl, _⟩ | ⟨b, op, rfl, _, _, _, h2⟩
 ·exact .nil
 ·exact IntsE.own ((hs.sub hA).own (by rw [h2]; exact .here)) hf hl
theorem a_front' {P : Program} {C : Nat -> (CF -> Bool) -> Bool} {X : FuncId -> List Value -> St -> (Value -> St -> Bool) -> Bool} {s0 : St} {n nt : Nat} {env : List (Nat × Value)} {A : List Ob} {R : Value -> List Ob -> Prop} {x : Ob} {A' : List Ob} {c : COp} (hd : DelO A x A') (h : OpA P C X s0 n nt c env (x :: A') R) : OpA P C X s0 n nt c env A R := .mk fun s hs => h.go s (hs.front hd)
theorem a_sub' {P : Program} {C : Nat -> (CF -> Bool) -> Bool} {X : FuncId -> List Value -> St -> (Value -> St -> Bool) -> Bool} {s0 : St} {n nt : Nat} {env : List (Nat × Value)} {A : List Ob} {R : Value -> List Ob -> Prop} {A' : List Ob} {c : COp} (hd : A'.Sublist A) (h : OpA P C X s0 n nt c env A' R) : OpA P C X s0 n nt c env A R := .mk fun s hs => h.go s (hs.sub hd)
theorem seg_take {ls : List (List Int)} {i : Nat} (h : i <= ls.length) : segL (limC ls) 0 (i * 4) = some (limC (ls.take i)) := by
 by_cases q : i * 4 <= (limC ls).length
 ·rw [seg_some q (by omega), List.drop_zero, limC_take h]
 ·rw [limC_len] at q; omega
theorem seg_drop {ls : List (List Int)} {i : Nat} (h : i <= ls.length) : segL (limC ls) ((0 + i) * 4) ((ls.length - i) * 4) = some (limC (ls.drop i)) := by
 have e : (limC (ls.drop i)).length = (ls.length - i) * 4 := by rw [limC_len, List.length_drop]
 rw [seg_some (by rw [limC_len]; omega) (by rw [limC_len]; omega), Nat.zero_add, limC_drop h, <- e, List.take_length]
theorem a_appQ {P : Program} {C : Nat -> (CF -> Bool) -> Bool} {X : FuncId -> List Value -> St -> (Value -> St -> Bool) -> Bool} {s0 : St} {n nt : Nat} {env : List (Nat × Value)} {A : List Ob} {R : Value -> List Ob -> Prop} {TT k c m m3 bT o cy e9 : Nat} {op9 : Bool} {a : Option Addr} {ts ts2 ts3 lsT : List (List Int)} {U A' : List Ob} {z : List Value} {x y : Ev.X} (hQ : TlQ TT a k c ts U) (hA : Cut U A A') (hx : xv env x = some (.slice a k c)) (hy : xv env y = some (.slice (some ⟨bT, o, none⟩) m cy)) (ho : Own A' bT e9 op9 (limC lsT)) (hm : ts2.length = m) (hsg : segL (limC lsT) o (m * 4) = some (limC ts2)) (h3 : ts ++ ts2 = ts3) (hm3 : k + m = m3) (hb : m3 <= 400)
 (h : ∀ a2 c2 U2, TlQ TT a2 m3 c2 ts3 U2 -> R (.slice a2 m3 c2) (U2 ++ A')) : OpA P C X s0 n nt (.app TT 4 32 z false x y) env A R := by
 obtain ⟨b, rfl, hl, hc⟩ := hQ;obtain ⟨A1, A2, e1, e2⟩ := hA.parts;have hl3 : ts3.length = m3 := by rw [<- h3, List.length_append, hl, hm]; exact hm3
 have hsub : A'.Sublist A := by rw [e1, e2]; exact List.Sublist.append (.refl _) (List.sublist_append_right _ _)
 have hfr : ∀ {q : Ob}, U = [q] -> DelO A q A' := fun e => by
  rw [e1, e2, e];clear hsub e1 e2 hA ho h hc
  induction A1 with
  | nil => exact .here
  | cons p A1 ih => exact .next ih
 have hsrc : ∀ {B : List Ob}, Own B bT e9 op9 (limC lsT) -> m ≠ 0 -> Src s0 B 4 m (limC ts2) (.slice (some ⟨bT, o, none⟩) m cy) := fun hB hm0 =>
  ⟨bT, o, cy, rfl, by rw [limC_len, hm], fun q => by have := congrArg List.length q; rw [limC_len, hm] at this; have : m * 4 = 0 := this; omega, .inl ⟨e9, op9, _, hB, by rw [limC_len, hm]; exact hsg⟩⟩
 rcases hc with ⟨rfl, rfl, rfl⟩ | ⟨h0, rfl, rfl⟩
 ·obtain rfl := List.eq_nil_of_length_eq_zero hl
  by_cases q : m = 0
  ·subst q
   refine a_front' (hfr rfl) (a_appzz hx (fun b hb => by cases hb; rfl) hy (fun b hb => by cases hb; rfl) ?_);subst hm3;exact h _ 0 _ ⟨b, rfl, hl3, .inl ⟨rfl, rfl, rfl⟩⟩
  ·refine a_sub' hsub (a_appz hx (fun b hb => by cases hb; rfl) hy (hsrc ho q) q (by omega) (by omega) (fun b2 => ?_))
   obtain rfl : m = m3 := by omega
   rw [List.nil_append] at h3;subst h3;exact h _ OPEN _ ⟨b2, rfl, hl3, .inr ⟨by omega, rfl, rfl⟩⟩
 ·refine a_front' (hfr rfl) ?_
  by_cases q : m = 0
  ·subst q
   obtain rfl := List.eq_nil_of_length_eq_zero hm;rw [List.append_nil] at h3;subst h3;obtain rfl : k = m3 := by omega
   exact a_appO0 J hx hy .here (by rw [limC_len, hl]; omega) (by omega) (by omega) (h _ OPEN _ ⟨b, rfl, hl, .inr ⟨h0, rfl, rfl⟩⟩)
  ·refine a_app hx hy (hsrc (.next ho) q) .here (by rw [limC_len, hl]) (.inl ⟨rfl, rfl⟩) q (by omega) (by omega) (fun b2 => ?_)
   rw [<- limC_app, h3, hm3];exact h _ OPEN _ ⟨b2, rfl, hl3, .inr ⟨by omega, rfl, rfl⟩⟩
theorem a_ag4F {P : Program} {C : Nat -> (CF -> Bool) -> Bool} {X : FuncId -> List Value -> St -> (Value -> St -> Bool) -> Bool} {s0 : St} {n nt : Nat} {env : List (Nat × Value)} {A : List Ob} {R : Value -> List Ob -> Prop} {d : Nat} {x lo : Ev.X} {b m l : Nat} {l9 : List Value} (hx : xv env x = some (.slice (some ⟨b, 0, none⟩) m OPEN)) (h_lo : xv env lo = some (.int .i64 (l : Int))) (hd : look env d = some (.slice (some ⟨b, (0 + l) * 4, none⟩) (m - l) (OPEN + (0 + l)))) (ho : Own A b 38 true l9) (hl : l <= m) (hk : m * 4 <= l9.length) (hR : R undef A) : OpA P C X s0 n nt (.againS 38 4 x (some lo) none none d) env A R := .mk fun s hs T hT q hq => by
 refine Z6 hT (k := fun x => valOK T (some lo) (fun lo => valOK T none (fun hi => valOK T none (fun mx => valK T (.t d) (fun d => slcK s 38 4 x lo hi mx (fun v => ifB (eqV v d) (q undef s) false)))))) hx ?_;refine Z6 hT (k := fun v => valK T (.t d) (fun d => slcK s 38 4 _ (some v) none none (fun v => ifB (eqV v d) (q undef s) false))) h_lo ?_;refine Z6 hT (x := .t d) (k := fun d => slcK s 38 4 _ _ none none (fun v => ifB (eqV v d) (q undef s) false)) hd ?_;unfold slcK;obtain ⟨c, h3, _⟩ := hs.own ho;have hrow : rowOf s b = some (l9.length, 38, true) := by
  unfold rowOf;rw [h3]
 have key := slc_sl4F (n := m) hrow hl hk;rw [key];show forceV (Value.slice (some ⟨b, (0 + l) * 4, none⟩) (m - l) (OPEN + (0 + l))) (fun v => ifB (eqV v (.slice (some ⟨b, (0 + l) * 4, none⟩) (m - l) (OPEN + (0 + l)))) (q undef s) false) = true;rw [forceV_eq, V6 (fun b hb => by cases hb; rfl)];exact hq _ _ ⟨A, hs, hR⟩
/-! Ranges with and without a limit. -/
theorem idle_iff {ls : List (List Int)} {M i : Nat} {d : Nat -> Int} (hl : lmB (M : Int) ls = true) (h : i < ls.length) (hd : Dd (dl ls i) (M + 1) (la ls i) d) (hi : d (lb ls i) <= lw ls i) (x : Nat -> Int) : Kq ls x ↔ Kq (dl ls i) x := ⟨fun q => ((kp_dl h).1 q).1, fun q => idle_kp hl h hd hi q⟩
theorem opt_isM {ls : List (List Int)} {M : Nat} {w t p : Nat -> Int} (hl : lmB (M : Int) ls = true) (h : Opt ls (M + 1) w t p) : IsM ls M w (tot (fun i => t i * lw ls i) ls.length) := ⟨fun x hx => h.le (hN_of hl) hx, p, h.st, h.eq (hN_of hl)⟩
theorem opt_kq {ls l2 : List (List Int)} {M : Nat} {w t p t2 p2 : Nat -> Int} (hl : lmB (M : Int) ls = true) (hl2 : lmB (M : Int) l2 = true) (hk : ∀ x, Kq ls x ↔ Kq l2 x) (h : Opt ls (M + 1) w t p) (h2 : Opt l2 (M + 1) w t2 p2) : tot (fun i => t i * lw ls i) ls.length = tot (fun i => t2 i * lw l2 i) l2.length := IsM.uniq ((opt_isM hl h).same hk) (opt_isM hl2 h2)
theorem opn_kq {ls l2 : List (List Int)} {M : Nat} {w t p : Nat -> Int} (hl2 : lmB (M : Int) l2 = true) (hk : ∀ x, Kq ls x ↔ Kq l2 x) (h : Opn ls (M + 1) w) (h2 : Opt l2 (M + 1) w t p) : False := h.noM ((opt_isM hl2 h2).same (fun x => (hk x).symm))
theorem idle_tab {ls : List (List Int)} {M i : Nat} {d : Nat -> Int} {D D2 : Nat -> Nat -> Int} (hl : lmB (M : Int) ls = true) (h : i < ls.length) (hD : DT ls (M + 1) D) (hD2 : DT (dl ls i) (M + 1) D2) (hd : Dd (dl ls i) (M + 1) (la ls i) d) (hi : lw ls i < d (lb ls i)) : ¬ D (la ls i) (lb ls i) = D2 (la ls i) (lb ls i) := by
 obtain ⟨ha, hb⟩ := hN_of hl i h;have hw := (lw_bd' hl h).2;refine idle_no hl h hD ?_;by_cases q : D2 (la ls i) (lb ls i) = 1000000000
 ·omega
 ·have := (Dd.uniq (dl_lm hl) ha (hD2 _ ha) hd hb q).2
  omega
theorem rowT_at {T T' : Nat -> Nat -> Int} {N i j : Nat} (h : rowT T N i = rowT T' N i) (hj : j < N) : T i j = T' i j := by
 have e := congrArg (fun l => l[j]?) h;unfold rowT at e;simp only [List.getElem?_map, List.getElem?_range hj, Option.map_some, Option.some.injEq] at e;exact e
theorem get_mem {l : List Int} {k : Nat} (h : k < l.length) : l.getD k 0 ∈ l := by
 rw [List.getD_eq_getElem?_getD, List.getElem?_eq_getElem h]; exact List.getElem_mem h
theorem mem_get {l : List Int} {x : Int} (h : x ∈ l) : ∃ k, k < l.length /\ l.getD k 0 = x := by
 obtain ⟨k, hk, e⟩ := List.mem_iff_getElem.1 h;exact ⟨k, hk, by rw [List.getD_eq_getElem?_getD, List.getElem?_eq_getElem hk]; exact e⟩
theorem list_ext0 {a b : List Int} (h : a.length = b.length) (k : ∀ i, i < a.length -> a.getD i 0 = b.getD i 0) : a = b := by
 refine List.ext_getElem h (fun i h1 h2 => ?_);have := k i h1;rw [List.getD_eq_getElem?_getD, List.getD_eq_getElem?_getD, List.getElem?_eq_getElem h1, List.getElem?_eq_getElem h2] at this;exact this
theorem idle_rng {ls : List (List Int)} {M k : Nat} {il : List Int} (p : IdP ls M k il) (hk : k <= 1000) : ∀ x ∈ il, -9223372036854775808 <= x /\ x < 9223372036854775808 := fun x hx => by
 have := p.rg x hx;omega
theorem dl_sys {M i : Nat} {ls : List (List Int)} (hM : M <= 64) (hl : ls.length <= 400) (h : lmB (M : Int) ls = true) (hi : i < ls.length) : sysE (M : Int) (dl ls i) = 0 := by
 have := dl_len hi;unfold sysE;rw [if_pos (by omega), if_neg (by omega), if_pos (dl_lm h)]
section
variable {X : FuncId -> List Value -> St -> (Value -> St -> Bool) -> Bool}
theorem made_o (n : Nat) (r0 : Int) (ar : Option Addr) (cr : Nat) (rs : List (List Int)) (s : St) (hs : Wf s) (hn : 562949953421312 <= n) (hR : RowsE s 4 ar rs) : Spec Try.prog (tabK tabw) X (n + 800) 8 [.agg ⟨[.int .i64 r0, .slice ar rs.length cr]⟩] s (fun v A => ∃ al cl TL, v = .agg ⟨[.int .i64 (mdM r0 : Int), .slice al (mdL (mdM r0) rs).length cl]⟩ /\ A = TL /\ TlO 38 al (mdL (mdM r0) rs).length cl (mdL (mdM r0) rs) TL) := by
 refine enter bw8_at rfl hs ?_;unfold bw8;have hlen := hR.len;obtain ⟨hM1, hM6, hMe⟩ := mdM_bd (r0 := r0);have hmr := modN_bd (x := r0) (m := 6) (by decide);generalize hMg : mdM r0 = M at *;refine rS (kO J (a_box J J J (fun b1 => (kO J (a_new J J (fun b2 => (Q0 (rS (kO J (Z2 J (kO J (Z1 J (.next .here) J (kO J (a_callV J J (fun s1 h1 => mod_s _ _ _ s1 h1.wf (by omega)) (kO J (Q4 J J (by omega) ?_))))))))))))))));rw [hMe];refine kO J (Z7 J J (kO J (a_new J J (fun b3 => (kZ J (Q7 J J .here rfl rfl rfl rfl (Q0 (rQ (rS (kO J (Z2 J (kO J (Z1 J (.next (.next .here)) J (kO J (a_lenx J hR.spot (kM J J (Q0 (Y1 ?_))))))))))))))))));refine Z5 (fun j e A => ∃ (k : Nat) (aT : Option Addr) (n9 cp : Nat) (TL : List Ob), e = [(2, .pointer (some ⟨b2, 0, none⟩)), (3, .pointer (some ⟨b3, 0, none⟩)), (14, .slice ar rs.length cr), (15, .int .i64 (rs.length : Int)), (16, .int .i64 (k : Int))] /\ A = (TL ++ (.row b3 29 false ([.int .i64 (M : Int), .slice aT n9 cp]) :: (.row b2 29 false ([.int .i64 0, .slice none 0 0]) :: []))) /\ j = rs.length - k /\ k <= rs.length /\ k <= 20 /\ n9 = k /\ TlO 38 aT n9 cp (mdK M rs k) TL) 300 0 281474976710656 ?_ (j := _) (env2 := _) (A2 := _) ?_ ?_ ?_ ?_ ⟨0, none, 0, 0, [], rfl, rfl, rfl, Nat.zero_le _, Nat.zero_le _, rfl, (.inl ⟨rfl, rfl, rfl, rfl, rfl⟩)⟩
 rotate_left
 ·omega
 ·omega
 ·exact (lc 2 J (lc 3 J (lc 14 J (lc 15 J (lc 16 J Less.nil)))))
 ·exact (.q (.q (.cons _ .slnil)))
 rintro n hn j _ _ ⟨k, aT, n9, cp, TL, rfl, rfl, rfl, hk, hk20, hn9, hU⟩;have hsp9 := hU.tlr.spot;refine rS (kO J (Q6 J J (fun h4 => ?_) (fun h4 => ?_)))
 ·obtain ⟨q4, o4, y0, y1, y2, y3, ahR, hx, hat, i0, i1, i2, i3⟩ := hR.row4 (k := k) (by omega)
  have hat2 := hat;obtain ⟨d0, d1, d2, d3, _⟩ := hat2;have m0 := modN_bd (x := y0) (m := (M : Int) + 1) (by omega);have m1 := modN_bd (x := y1) (m := (M : Int)) (by omega);have m2 := modN_bd (x := y2) (m := 141) (by decide);have m3 := modN_bd (x := y3) (m := 6) (by decide);refine Q0 (rQ (Y0 J (Q1 (W0 (rQ (Y1 (rS (kM J J (kO J (a_iaA (j := k) ahR rfl rfl (by first | rfl | omega) (by first | decide | omega) (kO J (a_ldar J (by decide) (by assumption) J (kO J (a_new J J (fun b5 => (kM J J (kZ J (Q7 J J .here rfl rfl rfl rfl (Q0 (rQ (rS (kM J J (kO J (a_eql J J (fun h6 => ?_) (fun h6 => ?_)))))))))))))))))))))))))
  ·refine Q0 (Y0 J (W5 (W3 (block_miss rfl (W3 (W3 (U3 (W0 (rS (kO J (U5 J (by decide) (.next (.app .here)) J (kZ J (Q7 J J (.next (.app (.next .here))) J J J J (Q0 (Z3 ?_)))))))))))))))
   have hz9 : mdK M rs k = mdL M rs := by
    first
     | (rw [show k = 20 by omega]; exact mdK_20)
     | (rw [show k = rs.length by omega]; exact mdK_all (by omega))
   rw [hz9] at hU;obtain ⟨hz1, hz2, hz3⟩ := hU.tlr.ok;exact endcA J (by decide) (.cons _ (List.sublist_append_left _ _)) (.next (.app (.next .here))) J ⟨aT, cp, TL, by rw [<- hz2], rfl, hz2 ▸ hU⟩
  ·refine Q0 (Z0 J (Q1 (W0 (rS (kO J (a_iaa (j := 0) J J (by decide) (by decide) (kO J (Z1 J .here rfl (kO J (Z2 J (kO J (Z1 J (.next (.app .here)) J (kO J (Q4 J J (by omega) (kO J (a_callV J J (fun s1 h1 => mod_s _ _ _ s1 h1.wf (by omega)) (kM J J (Q0 (rS (kM J J (kO J (Q4 J J (by omega) (kO J (a_iaa (j := 1) J J (by decide) (by decide) (kO J (Z1 J .here rfl (kO J (Z2 J (kO J (Z1 J (.next (.app .here)) J (kO J (Z2 J (kO J (Z1 J (.next (.app .here)) J (kO J (Q4 J J (by omega) (kO J (a_callV J J (fun s1 h1 => mod_s _ _ _ s1 h1.wf (by omega)) ?_))))))))))))))))))))))))))))))))))))))
   refine kZ J (a_again J J (.next (.app .here)) J (by simp [eqV, eqA, eqL, kindEq, intEq_eq, V6 hR.spot, V6 hsp9]) (kO J (Q4 J J (by omega) (kO J (a_callV J J (fun s1 h1 => mod_s _ _ _ s1 h1.wf (by omega)) (kM J J (Q0 (rI (kO J (Z2 J (kO J (Z1 J (.next (.app .here)) J (kM J J (kM J J (kO J (a_iaa (j := 2) J J (by decide) (by decide) (kO J (Z1 J .here rfl (kO J (a_iaa (j := 3) J J (by decide) (by decide) (kO J (Z1 J .here rfl (kO J (a_callV J J (fun s1 h1 => mod_s _ _ _ s1 h1.wf (by omega)) (kZ J (a_again J J .here rfl (by simp [eqV, eqA, eqL, kindEq, intEq_eq, V6 hR.spot, V6 hsp9]) (kZ J (a_again J J (.next (.app .here)) J (by simp [eqV, eqA, eqL, kindEq, intEq_eq, V6 hR.spot, V6 hsp9]) (kO J (a_sub J J (by omega) (kO J (a_callV J J (fun s1 h1 => mod_s _ _ _ s1 h1.wf (by omega)) (kZ J (a_again J J (.next (.app .here)) J (by simp [eqV, eqA, eqL, kindEq, intEq_eq, V6 hR.spot, V6 hsp9]) (kO J (Q4 J J (by omega) (kO J (Z7 J J (kO J (a_lit J J J (fun b7 => (kO J (a_appT (A1 := [_, _]) hU.tlr rfl rfl rfl (Src.own .here rfl (by simp)) (by decide) (by omega) (by omega) (fun b8 => ?_))))))))))))))))))))))))))))))))))))))))))));refine kO J (Z2 J (kZ J (a_st J J (.next (.next (.next .here))) J J (Q0 (U1 (W0 (rI (kO J (Q4 J J (by omega) (kM J J (Q0 (W0 ?_))))))))))));exact ⟨rfl, _, _, _, (show rs.length - (k + 1) < rs.length - k by omega), (lc 2 J (lc 3 J (lc 14 J (lc 15 J (lc 16 J Less.nil))))), (.q (.cons _ (.cons _ (.q (.q .slnil))))), ⟨k + 1, some ⟨b8, 0, none⟩, n9 + 1, OPEN, [.row b8 38 true (limC (mdK M rs (k + 1)))], rfl, (by rw [<- mdK_app hx]; rfl), rfl, by omega, by omega, by omega, (.inr ⟨_, rfl, by omega, by rw [mdK_len (by omega)]; omega, rfl, rfl⟩)⟩⟩
 ·refine Q0 (rQ (Z0 J (W5 (W3 (W3 (U3 (W0 (rS (kO J (U5 J (by decide) (.app .here) J (kZ J (Q7 J J (.app (.next .here)) J J J J (Q0 (Z3 ?_))))))))))))))
  have hz9 : mdK M rs k = mdL M rs := by
   first
    | (rw [show k = 20 by omega]; exact mdK_20)
    | (rw [show k = rs.length by omega]; exact mdK_all (by omega))
  rw [hz9] at hU;obtain ⟨hz1, hz2, hz3⟩ := hU.tlr.ok;exact endcA J (by decide) (List.sublist_append_left _ _) (.app (.next .here)) J ⟨aT, cp, TL, by rw [<- hz2], rfl, hz2 ▸ hU⟩
theorem Has_s (n : Nat) (aw : Option Addr) (cw : Nat) (w : List Int) (y : Int) (s : St) (hs : Wf s) (hn : 281474976710656 <= n) (hW : IntsE s aw w) : Spec Try.prog (tabK tabw) X (n + 300) 21 [.slice aw w.length cw, .int .i64 y] s (fun v A => (y ∈ w /\ v = .bool true /\ A = []) ∨ (¬ y ∈ w /\ v = .bool false /\ A = [])) := by
 refine enter bw21_at rfl hs ?_;unfold bw21;have hlen := hW.len;refine rS (kM J J (Q0 (rQ (rS (kM J J (kO J (a_lenx J hW.spot (kM J J (Q0 (Y1 (Z5 (fun j e A => ∃ (k : Nat), e = [(1, .int .i64 y), (7, .slice aw w.length cw), (8, .int .i64 (w.length : Int)), (9, .int .i64 (k : Int))] /\ A = [] /\ j = w.length - k /\ k <= w.length /\ ∀ j, j < k -> ¬ w.getD j 0 = y) 200 0 281474976710656 ?_ (j := _) (env2 := _) (A2 := _) ?_ ?_ ?_ ?_ ⟨0, rfl, rfl, rfl, Nat.zero_le _, (fun j hj => absurd hj (Nat.not_lt_zero j))⟩)))))))))))
 rotate_left
 ·omega
 ·omega
 ·exact (lc 1 J (lc 7 J (lc 8 J (lc 9 J Less.nil))))
 ·exact .slnil
 rintro n hn j _ _ ⟨k, rfl, rfl, rfl, hk, hne⟩;refine rS (kO J (Q6 J J (fun h1 => ?_) (fun h1 => ?_)))
 ·refine Q0 (rQ (Y0 J (Q1 (W0 (rQ (Y1 (rS (kO J (Q8 (j := k) hW rfl rfl (by omega) (by first | rfl | omega) (by omega) (fun _ _ a2 => (kO J (W7 J (hW.at a2 (by omega)) (kM J J (Q0 (rS (kM J J (kM J J (kO J (a_eql J J (fun h3 => ?_) (fun h3 => ?_))))))))))))))))))))
  ·have hk9 : w.getD k 0 = y := h3
   refine Q0 (Y0 J (rS (kM J J (Q0 (Z3 (Y7 (V3 (V3 (Y7 (V3 ?_))))))))));exact end1 J (.inl ⟨hk9 ▸ get_mem (by omega), rfl, rfl⟩)
  ·refine Q0 (Z0 J (Q1 (U1 (W0 (rI (kO J (Q4 J J (by omega) (kM J J (Q0 (W0 ?_))))))))))
   exact ⟨rfl, _, _, _, (show w.length - (k + 1) < w.length - k by omega), (lc 1 J (lc 7 J (lc 8 J (lc 9 J Less.nil)))), .slnil, ⟨k + 1, rfl, rfl, rfl, by omega, (fun j hj => by by_cases e : j = k; exact e ▸ (by assumption); exact hne j (by omega))⟩⟩
 ·refine Q0 (rQ (Z0 J (W5 (W3 (W3 (U3 (W0 (rS (kM J J (Q0 (Z3 ?_)))))))))))
  exact end1 J (.inr ⟨fun q => (by obtain ⟨j, h1, h2⟩ := mem_get q; exact hne j (by omega) h2), rfl, rfl⟩)
theorem Same2_s (n : Nat) (a1 : Option Addr) (c1 n1 : Nat) (a2 : Option Addr) (c2 n2 : Nat) (w u : List Int) (s : St) (hs : Wf s) (hn : 281474976710656 <= n) (hn1 : n1 = w.length) (hn2 : n2 = w.length) (he : w.length = u.length) (hW : IntsE s a1 w) (hU : IntsE s a2 u) : Spec Try.prog (tabK tabw) X (n + 400) 33 [.slice a1 n1 c1, .slice a2 n2 c2] s (fun v A => (w = u /\ v = .bool true /\ A = []) ∨ (¬ w = u /\ v = .bool false /\ A = [])) := by
 refine enter bw33_at rfl hs ?_;unfold bw33;have hlen := hW.len;subst hn1;subst hn2;refine rS (kM J J (Q0 (rQ (rS (kM J J (kO J (a_lenx J hW.spot (kM J J (kO J (a_lenx J hU.spot (kO J (Z4 J J (fun h1 => ?_) (fun h1 => ?_)))))))))))))
 ·exact absurd rfl h1
 ·refine Q0 (Z0 J (Q1 (W0 (rQ (rS (kM J J (kO J (a_lenx J hW.spot (kM J J (Q0 (Y1 (Z5 (fun j e A => ∃ (k : Nat), e = [(0, .slice a1 w.length c1), (1, .slice a2 w.length c2), (12, .int .i64 (w.length : Int)), (13, .int .i64 (k : Int))] /\ A = [] /\ j = w.length - k /\ k <= w.length /\ ∀ j, j < k -> w.getD j 0 = u.getD j 0) 250 0 281474976710656 ?_ (j := _) (env2 := _) (A2 := _) ?_ ?_ ?_ ?_ ⟨0, rfl, rfl, rfl, Nat.zero_le _, (fun j hj => absurd hj (Nat.not_lt_zero j))⟩))))))))))))
  rotate_left
  ·omega
  ·omega
  ·exact (lc 0 J (lc 1 J (lc 12 J (lc 13 J Less.nil))))
  ·exact .slnil
  rintro n hn j _ _ ⟨k, rfl, rfl, rfl, hk, hne⟩;refine rS (kO J (Q6 J J (fun h2 => ?_) (fun h2 => ?_)))
  ·refine Q0 (rQ (Y0 J (Q1 (W0 (rQ (Y1 (rS (kM J J (kM J J (Q0 (rS (kM J J (kM J J (kO J (Q8 (j := k) hW rfl rfl (by omega) (by first | rfl | omega) (by omega) (fun _ _ a3 => (kO J (W7 J (hW.at a3 (by omega)) (kM J J (kM J J (kO J (Q8 (j := k) hU rfl rfl (by omega) (by first | rfl | omega) (by omega) (fun _ _ a4 => (kO J (W7 J (hU.at a4 (by omega)) (kO J (Z4 J J (fun h5 => ?_) (fun h5 => ?_))))))))))))))))))))))))))))
   ·have hk9 : ¬ w.getD k 0 = u.getD k 0 := h5
    refine Q0 (Y0 J (rS (kM J J (Q0 (Z3 (Y7 (V3 (V3 (Y7 (V3 ?_))))))))));exact end1 J (.inr ⟨fun q => (by subst q; exact hk9 rfl), rfl, rfl⟩)
   ·have hk9 : w.getD k 0 = u.getD k 0 := by omega
    refine Q0 (Z0 J (Q1 (U1 (W0 (rI (kO J (Q4 J J (by omega) (kM J J (Q0 (W0 ?_))))))))));exact ⟨rfl, _, _, _, (show w.length - (k + 1) < w.length - k by omega), (lc 0 J (lc 1 J (lc 12 J (lc 13 J Less.nil)))), .slnil, ⟨k + 1, rfl, rfl, rfl, by omega, (fun j hj => by by_cases e : j = k; exact e ▸ hk9; exact hne j (by omega))⟩⟩
  ·refine Q0 (rQ (Z0 J (W5 (W3 (W3 (U3 (W0 (rS (kM J J (Q0 (Z3 ?_)))))))))))
   exact end1 J (.inl ⟨list_ext0 he (fun i hi => hne i (by omega)), rfl, rfl⟩)
end
end Ev
end Go.Proofs.Ytoeklhdklcpllaa
