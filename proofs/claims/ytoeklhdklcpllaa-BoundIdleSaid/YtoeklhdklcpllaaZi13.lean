import Derived.Test.YtoeklhdklcpllaaZi12
set_option linter.unusedVariables false
set_option linter.unusedSimpArgs false
namespace Go.Proofs.Ytoeklhdklcpllaa
open Go Go.RowKit
namespace Ev
def szs (w : List Int) : Nat -> Int
 | 0 => 0
 | k + 1 => szs w k + max (w.getD k 0) (-(w.getD k 0))
theorem szs_pos {w : List Int} : ∀ {k : Nat}, 0 <= szs w k
 | 0 => Int.le_refl _
 | k + 1 => by have := szs_pos (w := w) (k := k); show 0 <= szs w k + _; omega
def WOk (w : List Int) (n : Nat) : Prop := ∀ k, k < n -> szs w (k + 1) <= 3600000000000
theorem wok_zero {w : List Int} : WOk w 0 := fun k hk => absurd hk (Nat.not_lt_zero k)
theorem wok_step {w : List Int} {k : Nat} (h : WOk w k) (h2 : szs w k + max (w.getD k 0) (-(w.getD k 0)) <= 3600000000000) : WOk w (k + 1) := fun u hu => by
 by_cases q : u = k
 ·subst q; exact h2
 ·exact h u (by omega)
theorem wok_le {w : List Int} {n k : Nat} (h : WOk w n) (hk : k <= n) : szs w k <= 3600000000000 := by
 cases k with
 | zero => show (0 : Int) <= _; decide
 | succ k => exact h k (by omega)
theorem wok_no {w : List Int} {n k : Nat} (hk : k < n) (h : ¬ szs w k + max (w.getD k 0) (-(w.getD k 0)) <= 3600000000000) : ¬ WOk w n := fun q => h (q k hk)
def mxV (l : List Int) : Nat -> Int
 | 0 => l.getD 0 0
 | k + 1 => max (mxV l k) (l.getD (k + 1) 0)
theorem mx_mem {l : List Int} : ∀ {k : Nat}, ∃ j, j <= k /\ mxV l k = l.getD j 0
 | 0 => ⟨0, Nat.le_refl _, rfl⟩
 | k + 1 => by
  obtain ⟨j, h1, h2⟩ := mx_mem (l := l) (k := k);by_cases q : mxV l k <= l.getD (k + 1) 0
  ·exact ⟨k + 1, Nat.le_refl _, by show max _ _ = _; omega⟩
  ·exact ⟨j, by omega, by show max _ _ = _; omega⟩
theorem two_tl {z : Int} : limC [[0, z, 1280001, 0], [z, 0, 1280001, 0]] = [.int .i64 0, .int .i64 z, .int .i64 1280001, .int .i64 0, .int .i64 z, .int .i64 0, .int .i64 1280001, .int .i64 0] := by kernel_rfl
theorem app_tl {ls : List (List Int)} {i : Nat} : limC (ls ++ W1 i) ++ [.int .i64 0, .int .i64 ((i : Int) + 1), .int .i64 1280001, .int .i64 0, .int .i64 ((i : Int) + 1), .int .i64 0, .int .i64 1280001, .int .i64 0] = limC (ls ++ W1 (i + 1)) := by
 rw [show W1 (i + 1) = W1 i ++ [[0, ((i + 1 : Nat) : Int), 1280001, 0], [((i + 1 : Nat) : Int), 0, 1280001, 0]] from rfl, <- List.append_assoc, limC_app (b := [_, _]), two_tl];rfl
theorem limC_0 : limC (W1 0) = [] := List.eq_nil_of_length_eq_zero (by rw [limC_len]; rfl)
theorem limC_1 : limC (W1 1) = [.int .i64 0, .int .i64 (0 + 1), .int .i64 1280001, .int .i64 0, .int .i64 (0 + 1), .int .i64 0, .int .i64 1280001, .int .i64 0] := by
 have := app_tl (ls := []) (i := 0);rw [show ([] : List (List Int)) ++ W1 0 = W1 0 from rfl, limC_0] at this;exact this.symm
section
variable {X : FuncId -> List Value -> St -> (Value -> St -> Bool) -> Bool}
theorem weighs_s (n : Nat) (aw : Option Addr) (cw : Nat) (w : List Int) (s : St) (hs : Wf s) (hn : 281474976710656 <= n) (hW : IntsE s aw w) : Spec Try.prog (tabK tabw) X (n + 300) 71 [.slice aw w.length cw] s (fun v A => ((WOk w w.length /\ v = .bool true) ∨ (¬ WOk w w.length /\ v = .bool false)) /\ A = []) := by
 refine enter bw71_at rfl hs ?_;unfold bw71;have hlen := hW.len;refine rS (kM J J (Q0 (rS (kM J J (Q0 (rQ (rS (kM J J (kO J (a_lenx J hW.spot (kM J J (Q0 (Y1 (Z5 (fun j e A => ∃ (k : Nat), e = [(3, .int .i64 (3600000000000 - szs w k)), (6, .slice aw w.length cw), (7, .int .i64 (w.length : Int)), (8, .int .i64 (k : Int))] /\ A = [] /\ j = w.length - k /\ k <= w.length /\ WOk w k) 200 0 281474976710656 ?_ (j := _) (env2 := _) (A2 := _) ?_ ?_ ?_ ?_ ⟨0, rfl, rfl, rfl, Nat.zero_le _, wok_zero⟩))))))))))))))
 rotate_left
 ·omega
 ·omega
 ·exact (lc 3 J (lc 6 J (lc 7 J (lc 8 J Less.nil))))
 ·exact .slnil
 rintro n hn j _ _ ⟨k, rfl, rfl, rfl, hk, hw⟩;have hz1 := szs_pos (w := w) (k := k);have hz2 := wok_le hw (Nat.le_refl k);refine rS (kO J (Q6 J J (fun h1 => ?_) (fun h1 => ?_)))
 ·have hin := hW.in k
  refine Q0 (rQ (Y0 J (Q1 (W0 (rQ (Y1 (rS (kO J (Q8 (j := k) hW rfl rfl (by omega) (by first | rfl | omega) (by omega) (fun _ _ a2 => (kO J (W7 J (hW.at a2 (by omega)) (kM J J (Q0 (rQ (rS (kM J J (kM J J (kO J (a_neg J (by omega) (kM J J (kO J (a_callB J J (fun s1 h1 => inside_s _ _ _ _ s1 h1.wf) (fun h3 => ?_) (fun h3 => ?_))))))))))))))))))))))))
  ·refine kO J (U7 J (Q0 (Z0 J (Q1 (W0 (rI (kM J J (kM J J (kM J J (kO J (a_neg J (by omega) (kO J (a_max J (kO J (a_sub J J (by omega) (kM J J (Q0 (U1 (W0 (rI (kO J (Q4 J J (by omega) (kM J J (Q0 (W0 ?_)))))))))))))))))))))))))
   exact ⟨rfl, _, _, _, (show w.length - (k + 1) < w.length - k by omega), (lc 3 J (lc 6 J (lc 7 J (lc 8 J Less.nil)))), .slnil, ⟨k + 1, (by rw [show (3600000000000 : Int) - szs w (k + 1) = 3600000000000 - szs w k - max (w.getD k 0) (-(w.getD k 0)) from by show _ - (szs w k + _) = _; omega]; rfl), rfl, rfl, by omega, (wok_step hw (by omega))⟩⟩
  ·refine kO J (U7 J (Q0 (Y0 J (rS (kM J J (Q0 (Z3 (V3 (Y7 (V3 (V3 (Y7 (V3 ?_)))))))))))))
   exact end1 J ⟨.inr ⟨wok_no (k := k) (by omega) (by omega), rfl⟩, rfl⟩
 ·refine Q0 (rQ (Z0 J (W5 (W3 (W3 (U3 (W0 (rS (kM J J (Q0 (Z3 ?_)))))))))))
  have hkw : k = w.length := by omega
  subst hkw;exact end1 J ⟨.inl ⟨hw, rfl⟩, rfl⟩
theorem checkWeights_s (n : Nat) (m : Int) (al : Option Addr) (cl : Nat) (ls : List (List Int)) (aw : Option Addr) (cw : Nat) (w : List Int) (s : St) (hs : Wf s) (hn : 844424930131968 <= n) (hL : RowsE s 4 al ls) (hW : IntsE s aw w) : Spec Try.prog (tabK tabw) X (n + 700) 50 [.agg ⟨[.int .i64 m, .slice al ls.length cl]⟩, .slice aw w.length cw] s (fun v A => (¬ sysE m ls = 0 /\ v = .int .i64 (sysE m ls) /\ A = []) ∨ (sysE m ls = 0 /\ ¬ ((w.length : Int) = m + 1 /\ WOk w w.length) /\ v = .int .i64 27 /\ A = []) ∨ (sysE m ls = 0 /\ ((w.length : Int) = m + 1 /\ WOk w w.length) /\ v = .int .i64 0 /\ A = [])) := by
 refine enter bw50_at rfl hs ?_;unfold bw50;have hlen := hL.len;have hlenW := hW.len;refine rS (kO J (a_box J J J (fun b1 => (kM J J (Q0 (rQ (rS (kO J (U5 J (by decide) .here rfl (kO J (a_callV J J (fun s1 h1 => Check_s _ _ _ _ _ s1 h1.wf (by omega) (hL.ext hs h1.2.1)) (kM J J (Q0 (rS (kM J J (kO J (Z4 J J (fun h2 => ?_) (fun h2 => ?_))))))))))))))))))
 ·refine Q0 (Y0 J (rS (kM J J (kM J J (Q0 (Z3 (V3 ?_)))))))
  exact end1 J (.inl ⟨by omega, rfl, rfl⟩)
 ·have hsys : sysE m ls = 0 := by omega
  obtain ⟨hm0, hM, h400, hlm⟩ := sysE_ok hsys;refine Q0 (Z0 J (Q1 (W0 (rQ (rS (kM J J (kO J (a_lenx J hW.spot (kO J (Z2 J (kO J (Z1 J .here rfl (kO J (Q4 J J (by omega) (kO J (Z4 J J (fun h3 => ?_) (fun h3 => ?_)))))))))))))))))
  ·refine kM J J (U0 J J (U0 J J (U0 J J (kO J (Q3 J J J (Q0 (Y0 J (rS (kM J J (Q0 (Z3 (V3 ?_))))))))))))
   exact end1 J (.inr (.inl ⟨hsys, (fun q => by first | omega | exact hwo2 q.2), rfl, rfl⟩))
  ·refine kM J J (kG J J (Y3 J (kG J J (Y5 J J (fun s1 h1 => weighs_s _ _ _ _ s1 h1.wf (by omega) (hW.ext hs h1.2.1)) (fun v1 A1 q1 => ?_)))))
   obtain ⟨q1, rfl⟩ := q1;rcases q1 with ⟨hwo, rfl⟩ | ⟨hwo, rfl⟩
   ·have hwo1 := hwo
    refine kG J J (U7 J (kO J (V1 J J J (Q0 (Z0 J (Q1 (W0 (rS (kM J J (Q0 (Z3 ?_)))))))))));exact end1 J (.inr (.inr ⟨hsys, ⟨by omega, hwo1⟩, rfl, rfl⟩))
   ·have hwo2 := hwo
    refine kG J J (U7 J (kO J (V1 J J J (Q0 (Y0 J (rS (kM J J (Q0 (Z3 (V3 ?_))))))))));exact end1 J (.inr (.inl ⟨hsys, (fun q => by first | omega | exact hwo2 q.2), rfl, rfl⟩))
theorem CloneI_s (n : Nat) (aw : Option Addr) (cw : Nat) (w : List Int) (s : St) (hs : Wf s) (hW : IntsE s aw w) (hne : w ≠ []) (h64 : w.length <= 100000) : Spec Try.prog (tabK tabw) X (n + 100) 53 [.slice aw w.length cw] s (fun v A => ∃ b, v = .slice (some ⟨b, 0, none⟩) w.length OPEN /\ A = [.row b 3 true (ints w)]) := by
 refine enter bw53_at rfl hs ?_;unfold bw53;have hlen := hW.len;obtain ⟨qw, ow, hqw⟩ := hW.addr hne;refine rS (kM J J (Q0 (rQ (rS (kM J J (kO J (a_eqN J J (by kernel_rfl) (fun q => by rw [q] at hqw; cases hqw) (fun h1 => ?_) (fun h1 => ?_))))))))
 ·rw [h1] at hqw; cases hqw
 ·refine Q0 (Z0 J (Q1 (W0 (rS (kO J (a_lit J J J (fun b2 => (kM J J (kO J (a_appz J (fun b hb => by cases hb; rfl) J (src_ints hW hne) (fun e => hne (List.eq_nil_of_length_eq_zero e)) (by omega) (by omega) (fun b3 => (kM J J (Q0 (Z3 ?_))))))))))))))
  exact end1A J (.q (.cons _ .slnil)) ⟨_, rfl, rfl⟩
theorem CloneL_n (n : Nat) (al : Option Addr) (cl : Nat) (ls : List (List Int)) (s : St) (hs : Wf s) (hL : RowsE s 4 al ls) (hne : ls ≠ []) (h64 : ls.length <= 100000) : Spec Try.prog (tabK tabw) X (n + 100) 29 [.slice al ls.length cl] s (fun v A => ∃ b, v = .slice (some ⟨b, 0, none⟩) ls.length OPEN /\ A = [.row b 38 true (limC ls)]) := by
 refine enter bw29_at rfl hs ?_;unfold bw29;have hlen := hL.len;obtain ⟨qw, ow, hqw⟩ := hL.addr hne;refine rS (kM J J (Q0 (rQ (rS (kM J J (kO J (a_eqN J J (by kernel_rfl) (fun q => by rw [q] at hqw; cases hqw) (fun h1 => ?_) (fun h1 => ?_))))))))
 ·rw [h1] at hqw; cases hqw
 ·refine Q0 (Z0 J (Q1 (W0 (rS (kO J (a_lit J J J (fun b2 => (kM J J (kO J (a_appz J (fun b hb => by cases hb; rfl) J (src_rows hL hne) (fun e => hne (List.eq_nil_of_length_eq_zero e)) (by omega) (by omega) (fun b3 => (kM J J (Q0 (Z3 ?_))))))))))))))
  exact end1A J (.q (.cons _ .slnil)) ⟨_, rfl, rfl⟩
theorem CloneL_e (n : Nat) (al : Option Addr) (cl : Nat) (s : St) (hs : Wf s) (hsp : ∀ b, al = some b -> b.spot = none) (hcl : al = none -> cl = 0) : Spec Try.prog (tabK tabw) X (n + 100) 29 [.slice al 0 cl] s (fun v A => (v = .slice none 0 0 /\ A = []) ∨ ∃ b, v = .slice (some ⟨b, 0, none⟩) 0 0 /\ A = [.row b 38 false []]) := by
 refine enter bw29_at rfl hs ?_;unfold bw29;refine rS (kM J J (Q0 (rQ (rS (kM J J (kO J (a_eqN J J (by kernel_rfl) (fun q => ⟨rfl, hcl q⟩) (fun h1 => ?_) (fun h1 => ?_))))))))
 ·refine Q0 (Y0 J (rS (kM J J (Q0 (Z3 (V3 ?_))))))
  exact end1 J (.inl ⟨rfl, rfl⟩)
 ·refine Q0 (Z0 J (Q1 (W0 (rS (kO J (a_lit J J J (fun b2 => (kM J J (kO J (a_appzz J (fun b hb => by cases hb; rfl) J hsp (kM J J (Q0 (Z3 ?_)))))))))))))
  exact end1A J (.q .slnil) (.inr ⟨_, rfl, rfl⟩)
theorem tolled_n (n : Nat) (M : Nat) (al : Option Addr) (cl : Nat) (ls : List (List Int)) (s : St) (hs : Wf s) (hn : 562949953421312 <= n) (hL : RowsE s 4 al ls) (hne : ls ≠ []) (hM : M <= 64) (h400 : ls.length <= 400) : Spec Try.prog (tabK tabw) X (n + 500) 52 [.agg ⟨[.int .i64 (M : Int), .slice al ls.length cl]⟩] s (fun v A => ∃ a2 c2 TL, v = .agg ⟨[.int .i64 (M : Int), .slice a2 (ls.length + 2 * M) c2]⟩ /\ A = TL /\ TlOk 38 a2 (ls ++ W1 M) TL) := by
 refine enter bw52_at rfl hs ?_;unfold bw52;have hlen := hL.len;refine rS (kO J (a_box J J J (fun b1 => (kO J (a_new J J (fun b2 => (Q0 (rS (kO J (Z2 J (kO J (Z1 J (.next .here) J (kO J (Y5 J J (fun s1 h1 => CloneL_n _ al cl ls s1 h1.wf (hL.ext hs h1.2.1) hne (by omega)) (fun v1 A1 q1 => ?_)))))))))))))));obtain ⟨bk3, rfl, rfl⟩ := q1;refine kM J J (Q0 (rQ (rS (kO J (Z2 J (kO J (Z1 J (.next (.next .here)) J (kM J J (Q0 (Y1 ?_))))))))));rw [show limC ls = limC (ls ++ W1 0) from by rw [show W1 0 = [] from rfl, List.append_nil]];refine Z5 (fun j e A => ∃ (i b cp : Nat) (op : Bool), e = [(1, .pointer (some ⟨b1, 0, none⟩)), (2, .pointer (some ⟨b2, 0, none⟩)), (3, .slice (some ⟨b, 0, none⟩) (ls.length + 2 * i) cp), (9, .int .i64 (M : Int)), (10, .int .i64 (i : Int))] /\ A = (.row b 38 op (limC (ls ++ W1 i)) :: (.row b2 29 false ([.int .i64 0, .slice none 0 0]) :: (.row b1 29 false ([.int .i64 (M : Int), .slice al ls.length cl]) :: []))) /\ j = M - i /\ i <= M /\ Tight op (ls.length + 2 * i) cp) 200 0 281474976710656 ?_ (j := _) (env2 := _) (A2 := _) ?_ ?_ ?_ ?_ ⟨0, bk3, _, _, rfl, rfl, rfl, (by omega), (by first | exact .inl ⟨rfl, rfl⟩ | exact .inr ⟨rfl, rfl, by decide⟩)⟩
 rotate_left
 ·omega
 ·omega
 ·exact (lc 1 J (lc 2 J (lc 3 J (lc 9 J (lc 10 J Less.nil)))))
 ·exact (.q (.q (.q .slnil)))
 rintro n hn j _ _ ⟨i, b, cp, op, rfl, rfl, rfl, hi, hT⟩;refine rS (kO J (Q6 J J (fun h4 => ?_) (fun h4 => ?_)))
 ·refine Q0 (rQ (Y0 J (Q1 (W0 (rQ (Y1 (rS (kM J J (kM J J (Q0 (rI (kM J J (kM J J (kO J (Q4 J J (by omega) (kO J (Z7 J J (kM J J (kO J (Q4 J J (by omega) (kO J (Z7 J J (kO J (a_lit J J J (fun b5 => (kO J (a_app J J (Src.own .here rfl (by simp)) (.next .here) (by rw [limC_len, List.length_append, toll_len]) hT (by decide) (by omega) (by omega) (fun b6 => (kM J J (Q0 (U1 ?_)))))))))))))))))))))))))))))))
  refine W0 (rI (kO J (Q4 J J (by omega) (kM J J (Q0 (W0 ?_))))));exact ⟨rfl, _, _, _, (show M - (i + 1) < M - i by omega), (lc 1 J (lc 2 J (lc 3 J (lc 9 J (lc 10 J Less.nil))))), (.q (.cons _ (.q (.q .slnil)))), ⟨i + 1, b6, _, _, rfl, (by rw [<- app_tl]; rfl), rfl, by omega, (.inl ⟨rfl, rfl⟩)⟩⟩
 ·refine Q0 (rQ (Z0 J (W5 (W3 (W3 (U3 (W0 (rS (kO J (Z2 J (kO J (Z1 J (.next (.next .here)) J (kM J J (kO J (Z7 J J (kZ J (Q7 J J (.next .here) J J J J (Q0 (Z3 ?_)))))))))))))))))))
  have hiM : i = M := by omega
  subst hiM;exact endcA J (by decide) (.q (.cons _ (.cons _ .slnil))) (.next .here) J ⟨_, _, _, rfl, rfl, .inr ⟨_, _, rfl, rfl⟩⟩
theorem tolled_e (n : Nat) (M : Nat) (al : Option Addr) (cl : Nat) (s : St) (hs : Wf s) (hn : 562949953421312 <= n) (hsp : ∀ b, al = some b -> b.spot = none) (hcl : al = none -> cl = 0) (hM : M <= 64) : Spec Try.prog (tabK tabw) X (n + 500) 52 [.agg ⟨[.int .i64 (M : Int), .slice al 0 cl]⟩] s (fun v A => ∃ a2 c2 TL, v = .agg ⟨[.int .i64 (M : Int), .slice a2 (2 * M) c2]⟩ /\ A = TL /\ TlOk 38 a2 (W1 M) TL) := by
 refine enter bw52_at rfl hs ?_;unfold bw52;refine rS (kO J (a_box J J J (fun b1 => (kO J (a_new J J (fun b2 => (Q0 (rS (kO J (Z2 J (kO J (Z1 J (.next .here) J (kO J (Y5 J J (fun s1 h1 => CloneL_e _ al cl s1 h1.wf hsp hcl) (fun v1 A1 q1 => ?_)))))))))))))));rcases q1 with ⟨rfl, rfl⟩ | q1
 ·refine kM J J (Q0 (rQ (rS (kO J (Z2 J (kO J (Z1 J (.next .here) J (kM J J (Q0 (Y1 (r_unroll (rS (kO J (Q6 J J (fun h4 => ?_) (fun h4 => ?_)))))))))))))))
  ·refine Q0 (rQ (Y0 J (Q1 (W0 (rQ (Y1 (rS (kM J J (kM J J (Q0 (rI (kM J J (kM J J (kO J (Q4 J J (by decide) (kO J (Z7 J J (kM J J (kO J (Q4 J J (by decide) (kO J (Z7 J J (kO J (a_lit J J J (fun b5 => (kO J (a_appn J J (Src.own .here rfl (by simp)) (by decide) (by omega) (by omega) (fun b6 => (kM J J (Q0 (U1 ?_)))))))))))))))))))))))))))))))
   refine W0 (rI (kO J (Q4 J J (by decide) (kM J J (Q0 (W0 (Z5 (fun j e A => ∃ (i b cp : Nat) (op : Bool), e = [(1, .pointer (some ⟨b1, 0, none⟩)), (2, .pointer (some ⟨b2, 0, none⟩)), (3, .slice (some ⟨b, 0, none⟩) (2 * i) cp), (9, .int .i64 (M : Int)), (10, .int .i64 (i : Int))] /\ A = (.row b 38 op (limC (W1 i)) :: (.row b2 29 false ([.int .i64 0, .slice none 0 0]) :: (.row b1 29 false ([.int .i64 (M : Int), .slice al 0 cl]) :: []))) /\ j = M - i /\ i <= M /\ Tight op (2 * i) cp) 200 0 281474976710656 ?_ (j := _) (env2 := _) (A2 := _) ?_ ?_ ?_ ?_ ⟨1, b6, OPEN, true, rfl, rfl, rfl, (by omega), (by first | exact .inl ⟨rfl, rfl⟩ | exact .inr ⟨rfl, rfl, by decide⟩)⟩)))))))
   rotate_left
   ·omega
   ·omega
   ·exact (lc 1 J (lc 2 J (lc 3 J (lc 9 J (lc 10 J Less.nil)))))
   ·rw [limC_1]
    exact (.q (.cons _ (.q (.q .slnil))))
   rintro n hn j _ _ ⟨i, b, cp, op, rfl, rfl, rfl, hi, hT⟩;refine rS (kO J (Q6 J J (fun h7 => ?_) (fun h7 => ?_)))
   ·refine Q0 (rQ (Y0 J (Q1 (W0 (rQ (Y1 (rS (kM J J (kM J J (Q0 (rI (kM J J (kM J J (kO J (Q4 J J (by omega) (kO J (Z7 J J (kM J J (kO J (Q4 J J (by omega) (kO J (Z7 J J (kO J (a_lit J J J (fun b8 => (kO J (a_app J J (Src.own .here rfl (by simp)) (.next .here) (by rw [limC_len, toll_len]) hT (by decide) (by omega) (by omega) (fun b9 => (kM J J (Q0 (U1 ?_)))))))))))))))))))))))))))))))
    refine W0 (rI (kO J (Q4 J J (by omega) (kM J J (Q0 (W0 ?_))))));exact ⟨rfl, _, _, _, (show M - (i + 1) < M - i by omega), (lc 1 J (lc 2 J (lc 3 J (lc 9 J (lc 10 J Less.nil))))), (.q (.cons _ (.q (.q .slnil)))), ⟨i + 1, b9, _, _, rfl, (by rw [show limC (W1 (i + 1)) = _ from (app_tl (ls := [])).symm]; rfl), rfl, by omega, (.inl ⟨rfl, rfl⟩)⟩⟩
   ·refine Q0 (rQ (Z0 J (W5 (W3 (W3 (U3 (W0 (rS (kO J (Z2 J (kO J (Z1 J (.next (.next .here)) J (kM J J (kO J (Z7 J J (kZ J (Q7 J J (.next .here) J J J J (Q0 (Z3 ?_)))))))))))))))))))
    have hiM : i = M := by omega
    subst hiM;exact endcA J (by decide) (.q (.cons _ (.cons _ .slnil))) (.next .here) J ⟨_, _, _, rfl, rfl, .inr ⟨_, _, rfl, rfl⟩⟩
  ·refine Q0 (rQ (Z0 J (W5 (W3 (W3 (U3 (W0 (rS (kO J (Z2 J (kO J (Z1 J (.next .here) J (kM J J (kO J (Z7 J J (kZ J (Q7 J J .here rfl rfl rfl rfl (Q0 (Z3 ?_)))))))))))))))))))
   have hM0 : M = 0 := by omega
   subst hM0;exact endcA J (by decide) (.cons _ (.cons _ .slnil)) .here rfl ⟨_, _, _, rfl, rfl, .inl ⟨rfl, rfl, fun b hb => by cases hb⟩⟩
 ·obtain ⟨bk3, rfl, rfl⟩ := q1
  refine kM J J (Q0 (rQ (rS (kO J (Z2 J (kO J (Z1 J (.next (.next .here)) J (kM J J (Q0 (Y1 (Z5 (fun j e A => ∃ (i b cp : Nat) (op : Bool), e = [(1, .pointer (some ⟨b1, 0, none⟩)), (2, .pointer (some ⟨b2, 0, none⟩)), (3, .slice (some ⟨b, 0, none⟩) (2 * i) cp), (9, .int .i64 (M : Int)), (10, .int .i64 (i : Int))] /\ A = (.row b 38 op (limC (W1 i)) :: (.row b2 29 false ([.int .i64 0, .slice none 0 0]) :: (.row b1 29 false ([.int .i64 (M : Int), .slice al 0 cl]) :: []))) /\ j = M - i /\ i <= M /\ Tight op (2 * i) cp) 200 0 281474976710656 ?_ (j := _) (env2 := _) (A2 := _) ?_ ?_ ?_ ?_ ⟨0, bk3, 0, false, rfl, rfl, rfl, (by omega), (by first | exact .inl ⟨rfl, rfl⟩ | exact .inr ⟨rfl, rfl, by decide⟩)⟩)))))))))))
  rotate_left
  ·omega
  ·omega
  ·exact (lc 1 J (lc 2 J (lc 3 J (lc 9 J (lc 10 J Less.nil)))))
  ·rw [limC_0]
   exact (.q (.q (.q .slnil)))
  rintro n hn j _ _ ⟨i, b, cp, op, rfl, rfl, rfl, hi, hT⟩;refine rS (kO J (Q6 J J (fun h10 => ?_) (fun h10 => ?_)))
  ·refine Q0 (rQ (Y0 J (Q1 (W0 (rQ (Y1 (rS (kM J J (kM J J (Q0 (rI (kM J J (kM J J (kO J (Q4 J J (by omega) (kO J (Z7 J J (kM J J (kO J (Q4 J J (by omega) (kO J (Z7 J J (kO J (a_lit J J J (fun b11 => (kO J (a_app J J (Src.own .here rfl (by simp)) (.next .here) (by rw [limC_len, toll_len]) hT (by decide) (by omega) (by omega) (fun b12 => (kM J J (Q0 (U1 ?_)))))))))))))))))))))))))))))))
   refine W0 (rI (kO J (Q4 J J (by omega) (kM J J (Q0 (W0 ?_))))));exact ⟨rfl, _, _, _, (show M - (i + 1) < M - i by omega), (lc 1 J (lc 2 J (lc 3 J (lc 9 J (lc 10 J Less.nil))))), (.q (.cons _ (.q (.q .slnil)))), ⟨i + 1, b12, _, _, rfl, (by rw [show limC (W1 (i + 1)) = _ from (app_tl (ls := [])).symm]; rfl), rfl, by omega, (.inl ⟨rfl, rfl⟩)⟩⟩
  ·refine Q0 (rQ (Z0 J (W5 (W3 (W3 (U3 (W0 (rS (kO J (Z2 J (kO J (Z1 J (.next (.next .here)) J (kM J J (kO J (Z7 J J (kZ J (Q7 J J (.next .here) J J J J (Q0 (Z3 ?_)))))))))))))))))))
   have hiM : i = M := by omega
   subst hiM;exact endcA J (by decide) (.q (.cons _ (.cons _ .slnil))) (.next .here) J ⟨_, _, _, rfl, rfl, .inr ⟨_, _, rfl, rfl⟩⟩
theorem newFlow_g (n : Nat) (M : Nat) (al : Option Addr) (cl nl9 : Nat) (ls : List (List Int)) (s : St) (hs : Wf s) (hn : 844424930131968 <= n) (hL : RowsE s 4 al ls) (hM : M <= 64) (h6 : ls.length <= 600) (hg : Lg M ls) (hnl9 : nl9 = ls.length) : Spec Try.prog (tabK tabw) X (n + 900) 38 [.agg ⟨[.int .i64 (M : Int), .slice al nl9 cl]⟩] s (fun v A => ∃ b bt bn O B, v = .pointer (some ⟨b, 0, none⟩) /\ A = nobj B (nl ls ls.length) O ++ [.row b 93 false [.int .i64 (M : Int), .slice al ls.length cl, .slice (some ⟨bt, 0, none⟩) ls.length ls.length, .slice (some ⟨bn, 0, none⟩) (M + 1) (M + 1)], .row bn 25 false (nsl B (nl ls ls.length) (M + 1)), .row bt 3 false (ints (List.replicate ls.length 0))] /\ NO O (M + 1) (nl ls ls.length)) := by
 refine enter bw38_at rfl hs ?_;unfold bw38;subst hnl9;have hlen := hL.len;refine rS (kO J (a_box J J J (fun b1 => (kM J J (Q0 (rS (kO J (U5 J (by decide) .here rfl (kO J (Z2 J (kO J (Z1 J .here rfl (kO J (a_lenx J hL.spot (kO J (a_mksI (m := ls.length) (c := ls.length) J J (by omega) (by omega) (by omega) (fun b2 => (kO J (Z2 J (kO J (Z1 J (.next .here) J (kO J (Q4 J J (by omega) (kO J (a_mks1 (m := M + 1) (c := M + 1) J J (by omega) (by omega) (by omega) (fun b3 => (kO J (Z7 J J (kO J (a_box J J J (fun b4 => (kM J J (Q0 (rQ (rS (kO J (Z2 J (kO J (Z1 J (.next (.next (.next .here))) J (kO J (a_lenx J hL.spot (kM J J ?_))))))))))))))))))))))))))))))))))))))))));refine Q0 (Y1 ?_);rw [nsl_nil (ls := ls) (B := fun _ => 0)];refine Z5 (fun j e A => ∃ (k : Nat) (O : List Nat) (B : Nat -> Nat), e = [(1, .pointer (some ⟨b1, 0, none⟩)), (3, .pointer (some ⟨b4, 0, none⟩)), (18, .slice al ls.length cl), (19, .int .i64 (ls.length : Int)), (20, .int .i64 (k : Int))] /\ A = (nobj B (nl ls k) O ++ (.row b4 93 false ([.int .i64 (M : Int), .slice al ls.length cl, .slice (some ⟨b2, 0, none⟩) ls.length ls.length, .slice (some ⟨b3, 0, none⟩) (M + 1) (M + 1)]) :: (.row b3 25 false (nsl B (nl ls k) (M + 1)) :: (.row b2 3 false (ints (List.replicate ls.length 0)) :: (.row b1 29 false ([.int .i64 (M : Int), .slice al ls.length cl]) :: []))))) /\ j = ls.length - k /\ k <= ls.length /\ NO O (M + 1) (nl ls k) /\ ∀ v, (nl ls k v).length <= k) 600 0 281474976710656 ?_ (j := _) (env2 := _) (A2 := _) ?_ ?_ ?_ ?_ ⟨0, [], fun _ => 0, rfl, rfl, rfl, Nat.zero_le _, NO.zero, (fun _ => Nat.le_refl _)⟩
 rotate_left
 ·omega
 ·omega
 ·exact (lc 1 J (lc 3 J (lc 18 J (lc 19 J (lc 20 J Less.nil)))))
 ·exact (.q (.q (.q (.q .slnil))))
 rintro n hn j _ _ ⟨k, O, B, rfl, rfl, rfl, hk, hO, hnl⟩;refine rS (kO J (Q6 J J (fun h5 => ?_) (fun h5 => ?_)))
 ·obtain ⟨q4, o4, y0, y1, y2, y3, ahL, hx, hat, i0, i1, i2, i3⟩ := hL.row4 (k := k) (by omega)
  have hat2 := hat;obtain ⟨d0, d1, d2, d3, _⟩ := hat2;have := i0.lo; have := i0.hi;have := i1.lo; have := i1.hi;have := i2.lo; have := i2.hi;have := i3.lo; have := i3.hi;obtain ⟨g1, g2, g3, g4, g5, w3, ge⟩ := hg k (by omega);rw [hx] at ge;simp only [Option.some.injEq, List.cons.injEq, and_true] at ge;obtain ⟨e0, e1, e2, e3⟩ := ge;obtain ⟨u0, rfl⟩ : ∃ q : Nat, y0 = (q : Int) := ⟨_, e0⟩;obtain ⟨u1, rfl⟩ : ∃ q : Nat, y1 = (q : Int) := ⟨_, e1⟩;have hl0 := hnl u0;have hl1 := hnl u1;refine Q0 (rQ (Y0 J (Q1 (W0 (rQ (Y1 (rS (kM J J (kO J (a_iaA (j := k) ahL rfl rfl (by first | rfl | omega) (by first | decide | omega) (kO J (a_ldar J (by decide) (by assumption) J (kO J (a_new J J (fun b6 => (kM J J (kZ J (Q7 J J .here rfl rfl rfl rfl (Q0 (rS (kM J J (kO J (Q5 J (kO J (Z2 J (kO J (Z1 J (.next (.app .here)) J (kO J (Z2 J (kO J (Z1 J .here rfl (kM J J (kO J (Q5 J ?_))))))))))))))))))))))))))))))))));refine kO J (Z2 J (kO J (Z1 J (.next (.app .here)) J (kO J (Z2 J (kO J (Z1 J .here rfl (kO J (Y4 (j := u0) J J (by omega) (by omega) (kO J (Z1 J (.next (.app (.next .here))) (nsl_get (by omega)) (kM J J (kO J (a_lit J J J (fun b7 => (kO J (a_nap (zs := [_]) J J (Src.own .here rfl (by simp [ints])) (fun h => by rw [nobj_no (show ¬ u0 ∈ O from fun q => (hO.2 _ (by omega)).1 q h)]) (fun h => .next (.next (del_nobj ((hO.2 _ (by omega)).2 h)))) (by omega) (by omega) (fun b8 => (kZ J (a_again J J (.next (.next .here)) J (by simp [eqV, eqA, eqL, kindEq, intEq_eq, V6 hL.spot]) (kZ J (a_again J J (.next (.next (.next (.app .here)))) J (by simp [eqV, eqA, eqL, kindEq, intEq_eq, V6 hL.spot]) (kO J (Y4 (j := u0) J J (by omega) (by omega) (kZ J (a_st J J (by rw [nsl_set (z := (k : Int))]; exact (.next (.next (.next (.app (.next .here)))))) (by rw [Nat.blt_eq, nsl_len]; omega) J (Q0 (rI (kM J J (kO J (Q5 J (kO J (Z2 J (kO J (Z1 J (.next (.next (.next (.app .here)))) J (kO J (Z2 J (kO J (Z1 J (.next (.next .here)) J (kM J J (kO J (Q5 J (kO J (Z2 J ?_))))))))))))))))))))))))))))))))))))))))))));refine kO J (Z1 J (.next (.next (.next (.app .here)))) J (kO J (Z2 J (kO J (Z1 J (.next (.next .here)) J (kO J (Y4 (j := u1) J J (by omega) (by omega) (kO J (Z1 J (.next (.next (.next (.app (.next .here))))) (by rw [nsl_get (by omega), nsv_ne (by omega)]) (kM J J (kO J (a_lit J J J (fun b9 => (kO J (a_nap (zs := [_]) J J (Src.own .here rfl (by simp [ints])) (fun h => by rw [nobj_no (show ¬ u1 ∈ O.erase u0 from fun q => (hO.2 _ (by omega)).1 (List.mem_of_mem_erase q) h)]) (fun h => .next (.next (.next (.next (del_nobj ((List.mem_erase_of_ne (by omega)).2 ((hO.2 _ (by omega)).2 h))))))) (by omega) (by omega) (fun b10 => (kZ J (a_again J J (.next (.next (.next (.next .here)))) J (by simp [eqV, eqA, eqL, kindEq, intEq_eq, V6 hL.spot]) (kZ J (a_again J J (.next (.next (.next (.next (.next (.app .here)))))) J (by simp [eqV, eqA, eqL, kindEq, intEq_eq, V6 hL.spot]) (kO J (Y4 (j := u1) J J (by omega) (by omega) (kZ J (a_st J J (by rw [nsl_set2 (show ¬ u1 = u0 by omega) (z := (k : Int))]; exact (.next (.next (.next (.next (.next (.app (.next .here)))))))) (by rw [Nat.blt_eq, nsl_len]; omega) J (Q0 (U1 (W0 (rI (kO J (Q4 J J (by omega) (kM J J (Q0 (W0 ?_)))))))))))))))))))))))))))))))));have hst := nl_step hx (by omega);exact ⟨rfl, _, _, _, (show ls.length - (k + 1) < ls.length - k by omega), (lc 1 J (lc 3 J (lc 18 J (lc 19 J (lc 20 J Less.nil))))), (.q (.cons _ (.q (.cons _ (.cons _ (.r (.q (.q (.q (.q .slnil)))))))))), ⟨k + 1, (u1 :: (u0 :: O.erase u0).erase u1), updB (updB B u0 b8) u1 b10, rfl, (by rw [hst]; exact nobj_two hO.1 (by omega)), rfl, by omega, (by rw [hst]; exact (hO.put (by simp)).put2 (by omega) (by simp)), (fun v => nl_len hnl v)⟩⟩
 ·refine Q0 (rQ (Z0 J (W5 (W3 (W3 (U3 (W0 (rS (kM J J (kM J J (Q0 (Z3 ?_))))))))))))
  have hkN : k = ls.length := by omega
  subst hkN;exact end1A J (.r (.q (.q (.q (.cons _ .slnil))))) ⟨_, _, _, O, B, rfl, rfl, hO⟩
theorem Max_s (n : Nat) (ax : Option Addr) (cx : Nat) (x : List Int) (s : St) (hs : Wf s) (hn : 281474976710656 <= n) (hX : IntsE s ax x) (h0 : 0 < x.length) : Spec Try.prog (tabK tabw) X (n + 300) 74 [.slice ax x.length cx] s (fun v A => v = .int .i64 (mxV x (x.length - 1)) /\ A = []) := by
 refine enter bw74_at rfl hs ?_;unfold bw74;have hlen := hX.len;refine rS (kM J J (Q0 (rQ (rS (kM J J (kO J (a_lenx J hX.spot (kO J (Q6 J J (fun h1 => ?_) (fun h1 => ?_))))))))))
 ·exfalso; omega
 ·refine Q0 (Z0 J (Q1 (W0 (rS (kM J J (kO J (Q8 (j := 0) hX rfl rfl (by omega) (by first | rfl | omega) (by omega) (fun _ _ a2 => (kO J (W7 J (hX.at a2 (by omega)) (kM J J (Q0 (rQ (rS (kM J J (Q0 (Y1 (Z5 (fun j e A => ∃ (k : Nat), e = [(0, .slice ax x.length cx), (3, .int .i64 (mxV x k)), (4, .int .i64 ((k + 1 : Nat) : Int))] /\ A = [] /\ j = x.length - k /\ k + 1 <= x.length) 150 0 281474976710656 ?_ (j := _) (env2 := _) (A2 := _) ?_ ?_ ?_ ?_ ⟨0, rfl, rfl, rfl, (by omega)⟩))))))))))))))))))
  rotate_left
  ·omega
  ·omega
  ·exact (lc 0 J (lc 3 J (lc 4 J Less.nil)))
  ·exact .slnil
  rintro n hn j _ _ ⟨k, rfl, rfl, rfl, hk⟩;refine rQ (rS (kM J J (kM J J (kO J (a_lenx J hX.spot (kO J (Q6 J J (fun h3 => ?_) (fun h3 => ?_))))))))
  ·refine Q0 (Y0 J (Q1 (W0 (rQ (Y1 (rI (kM J J (kM J J (kM J J (kO J (Q8 (j := (k + 1)) hX rfl rfl (by omega) (by first | rfl | omega) (by omega) (fun _ _ a4 => (kO J (W7 J (hX.at a4 (by omega)) (kO J (a_max J (kM J J (Q0 (U1 (W0 (rI (kM J J (kO J (Q4 J J (by omega) (kM J J (Q0 (W0 ?_)))))))))))))))))))))))))))
   exact ⟨rfl, _, _, _, (show x.length - (k + 1) < x.length - k by omega), (lc 0 J (lc 3 J (lc 4 J Less.nil))), .slnil, ⟨k + 1, rfl, rfl, rfl, by omega⟩⟩
  ·refine Q0 (Z0 J (W5 (W3 (W3 (U3 (W0 (rS (kM J J (kM J J (Q0 (Z3 ?_)))))))))))
   have hkx : k = x.length - 1 := by omega
   subst hkx;exact end1 J ⟨rfl, rfl⟩
end
theorem itr_root2 {ls : List (List Int)} {M : Nat} {c : Nat -> Nat × Nat × Nat × Int} {x : Nat -> Int} {t rd : Nat -> Nat} (hl : lmB (M : Int) ls = true) (hc : ∀ a, a < M + 1 -> (c a).2.1 < M + 1) (hz : ∀ a, a < M + 1 -> rd a = 0 -> x a = 0)
 (hp : ∀ b, b < M + 1 -> 0 < rd b -> Pq ls x t rd (c b) b) (hx : ∀ i, i < ls.length -> x (lb ls i) <= x (la ls i) + lw ls i) {v : Nat} (hv : v < M + 1) : -20000 * (M : Int) <= x v := by
 have step : ∀ j, 0 < rd (itr c v j) -> t (itr c v (j + 1)) < t (itr c v j) /\ x (itr c v (j + 1)) - 20000 <= x (itr c v j) := fun j hj => by
  obtain ⟨h1, h2, h3, h4, h5, h6⟩ := hp _ (itr_lt hc hv j) hj;have h7 := hx _ h1;rw [h2, h3] at h7;have h8 := (lw_bd' hl h1).1;exact ⟨h5 (by omega), by show x (c (itr c v j)).2.1 - 20000 <= _; omega⟩
 have down : ∀ j, (∀ i, i < j -> 0 < rd (itr c v i)) -> x (itr c v j) - 20000 * (j : Int) <= x v /\ ∀ i, i < j -> t (itr c v j) < t (itr c v i) := by
  intro j
  induction j with
  | zero => intro _; exact ⟨by show x v - 20000 * 0 <= x v; omega, fun i hi => absurd hi (Nat.not_lt_zero i)⟩
  | succ j ih =>
   intro h;obtain ⟨h1, h2⟩ := ih (fun i hi => h i (by omega));obtain ⟨h3, h4⟩ := step j (h j (by omega));refine ⟨by omega, fun i hi => ?_⟩;by_cases q : i = j
   ·rw [q]; exact h3
   ·have := h2 i (by omega); omega
 have hex : ∃ k, k <= M /\ rd (itr c v k) = 0 /\ ∀ i, i < k -> 0 < rd (itr c v i) := by
  refine Classical.byContradiction (fun q => ?_);have all : ∀ k, k <= M -> 0 < rd (itr c v k) := by
   intro k
   induction k using Nat.strongRecOn with
   | ind k ih =>
    intro hk;refine Nat.pos_of_ne_zero (fun z => q ⟨k, hk, z, fun i hi => ih i hi (by omega)⟩)
  obtain ⟨i, j, hij, hj, e⟩ := pigeon (M + 1) (itr c v) (fun i _ => itr_lt hc hv i);have := (down j (fun i hi => all i (by omega))).2 i hij;rw [e] at this;omega
 obtain ⟨k, h1, h2, h3⟩ := hex;have h4 := (down k h3).1;have h5 := hz _ (itr_lt hc hv k) h2;omega
theorem mv_pt {ls : List (List Int)} {M r : Nat} {wm : List Int} (hl : lmB (M : Int) ls = true) (h4 : ls.length <= 400) (hM : M <= 64) (hr : r < M + 1) (e : (stl ls (M + 1) (r + 1)).l = -1) (hm : Mvd (xs (stl ls (M + 1) (r + 1)).x (M + 1)) wm (-((stl ls (M + 1) (r + 1)).x 0)) (xs (stl ls (M + 1) (r + 1)).x (M + 1)).length) :
 ∃ p0 : Nat -> Int, wm = xs p0 (M + 1) /\ (∀ i, i < ls.length -> p0 (lb ls i) <= p0 (la ls i) + lw ls i) /\ (∀ v, v < M + 1 -> -1280000 <= p0 v /\ p0 v <= 1280000) /\ p0 0 = 0 := by
 obtain ⟨e2, h2⟩ := lws_l (s := st0 (stl ls (M + 1) r)) hl e;have e3 : (stl ls (M + 1) (r + 1)).x = (stl ls (M + 1) r).x := by
  show (lwS ls (st0 (stl ls (M + 1) r)) (M + 1)).x = _;rw [e2]; rfl
 have hI := Iv.stl hl h4 hM (r := r) (by omega);have hb := hI.bd;have hx : ∀ i, i < ls.length -> (stl ls (M + 1) r).x (lb ls i) <= (stl ls (M + 1) r).x (la ls i) + lw ls i := fun i hi => by
  have hL := lim_of hl hi;exact h2 (la ls i) hL.ha (by have := hb (la ls i) hL.ha; show ¬ (stl ls (M + 1) r).x (la ls i) = 1000000000; omega) i hi rfl
 obtain ⟨rd, t, T, g1, _⟩ := Gh.stl hl h4 hM (r := r) (by omega);have hlo : ∀ a, a < M + 1 -> -20000 * (M : Int) <= (stl ls (M + 1) r).x a := fun a ha => itr_root2 hl hI.par g1.zr g1.par hx ha
 rw [e3] at hm;obtain ⟨m1, m2⟩ := hm;rw [W4] at m1 m2;refine ⟨fun v => wm.getD v 0, ?_, fun i hi => ?_, fun v hv => ?_, ?_⟩
 ·refine List.ext_getElem? (fun j => ?_)
  by_cases hj : j < M + 1
  ·unfold xs
   rw [List.getElem?_map, List.getElem?_range hj, List.getElem?_eq_getElem (show j < wm.length by omega)];simp [List.getD_eq_getElem?_getD, List.getElem?_eq_getElem (show j < wm.length by omega)]
  ·rw [List.getElem?_eq_none (by omega), List.getElem?_eq_none (by rw [W4]; omega)]
 ·have hL := lim_of hl hi
  have h6 := hx i hi;have h7 := m2 _ hL.ha;have h8 := m2 _ hL.hb;rw [V4 hL.ha] at h7;rw [V4 hL.hb] at h8;show wm.getD _ 0 <= wm.getD _ 0 + _;omega
 ·have h7 := m2 v hv
  rw [V4 hv] at h7;have h8 := hlo v hv;have h9 := hlo 0 (by omega);have h10 := (hb v hv).2;have h11 := (hb 0 (by omega)).2;show -1280000 <= wm.getD v 0 /\ wm.getD v 0 <= 1280000;omega
 ·have h7 := m2 0 (by omega)
  rw [V4 (by omega)] at h7;show wm.getD 0 0 = 0;omega
theorem xs_of {w : List Int} {n : Nat} (h : w.length = n) : w = xs (fun v => w.getD v 0) n := by
 refine List.ext_getElem? (fun j => ?_);by_cases hj : j < n
 ·unfold xs
  rw [List.getElem?_map, List.getElem?_range hj, List.getElem?_eq_getElem (show j < w.length by omega)];simp [List.getD_eq_getElem?_getD, List.getElem?_eq_getElem (show j < w.length by omega)]
 ·rw [List.getElem?_eq_none (by omega), List.getElem?_eq_none (by rw [W4]; omega)]
theorem rep_xs0 {n : Nat} : List.replicate n (0 : Int) = xs (fun _ => 0) n := by unfold xs; rw [List.map_const', List.length_range]
theorem xs_ext {f g : Nat -> Int} {n : Nat} (h : ∀ j, j < n -> f j = g j) : xs f n = xs g n := List.map_congr_left (fun j hj => h j (List.mem_range.1 hj))
def pw (w : List Int) : Nat -> Int
 | 0 => 0
 | k + 1 => pw w k + (w.drop 1).getD k 0
def du0 (w : List Int) (k : Nat) : Nat -> Int := W2 (fun v => w.getD v 0) 0 (0 - pw w k)
theorem drop_get {w : List Int} {k : Nat} : (w.drop 1).getD k 0 = w.getD (k + 1) 0 := by
 rw [List.getD_eq_getElem?_getD, List.getD_eq_getElem?_getD, List.getElem?_drop, Nat.add_comm]
theorem pw_bd {w : List Int} : ∀ {k : Nat}, -(szs w (k + 1)) + max (w.getD 0 0) (-(w.getD 0 0)) <= pw w k /\ pw w k <= szs w (k + 1) - max (w.getD 0 0) (-(w.getD 0 0))
 | 0 => by
  show -(0 + max (w.getD 0 0) (-(w.getD 0 0))) + max (w.getD 0 0) (-(w.getD 0 0)) <= 0 /\ (0 : Int) <= 0 + max (w.getD 0 0) (-(w.getD 0 0)) - max (w.getD 0 0) (-(w.getD 0 0));omega
 | k + 1 => by
  have ih := pw_bd (w := w) (k := k);show -(szs w (k + 1) + max (w.getD (k + 1) 0) (-(w.getD (k + 1) 0))) + max (w.getD 0 0) (-(w.getD 0 0)) <= pw w k + (w.drop 1).getD k 0 /\ pw w k + (w.drop 1).getD k 0 <= szs w (k + 1) + max (w.getD (k + 1) 0) (-(w.getD (k + 1) 0)) - max (w.getD 0 0) (-(w.getD 0 0));rw [drop_get];omega
theorem du_step {w : List Int} {k : Nat} : W2 (du0 w k) 0 (du0 w k 0 - (w.drop 1).getD k 0) = du0 w (k + 1) := by
 funext v
 unfold du0;by_cases e : v = 0
 ·subst e
  rw [V2, V2, V2];show _ = 0 - (pw w k + (w.drop 1).getD k 0);omega
 ·rw [V0 e, V0 e, V0 e]
theorem du_tot {w : List Int} : ∀ {M : Nat}, tot (du0 w M) (M + 1) = 0 := by
 have key : ∀ M k, tot (du0 w M) (k + 1) = pw w k - pw w M := by
  intro M k
  induction k with
  | zero => show 0 + du0 w M 0 = _; unfold du0; rw [V2]; show _ = 0 - _; omega
  | succ k ih =>
   show tot (du0 w M) (k + 1) + du0 w M (k + 1) = pw w k + (w.drop 1).getD k 0 - _;rw [ih, drop_get];unfold du0;rw [V0 (by omega)]; omega
 intro M;rw [key]; omega
theorem du_pos {w : List Int} {M : Nat} (hw : w.length = M + 1) (h : WOk w w.length) : posS (du0 w M) (M + 1) <= 3600000000000 /\ ∀ v, v < M + 1 -> -3600000000000 <= du0 w M v /\ du0 w M v <= 3600000000000 := by
 have hz := wok_le h (k := M + 1) (by omega);have hp := pw_bd (w := w) (k := M);have hneg : ∀ k, posS (du0 w M) (k + 1) <= max (0 - pw w M) 0 + (szs w (k + 1) + pw w k - max (w.getD 0 0) (-(w.getD 0 0))) /\ 0 <= szs w (k + 1) + pw w k - max (w.getD 0 0) (-(w.getD 0 0)) := by
  intro k
  induction k with
  | zero =>
   show 0 + max (du0 w M 0) 0 <= max (0 - pw w M) 0 + (0 + max (w.getD 0 0) (-(w.getD 0 0)) + 0 - max (w.getD 0 0) (-(w.getD 0 0))) /\ 0 <= 0 + max (w.getD 0 0) (-(w.getD 0 0)) + 0 - max (w.getD 0 0) (-(w.getD 0 0));unfold du0;rw [V2]; omega
  | succ k ih =>
   have e : du0 w M (k + 1) = w.getD (k + 1) 0 := V0 (by omega);show posS (du0 w M) (k + 1) + max (du0 w M (k + 1)) 0 <= _ + (szs w (k + 1) + max (w.getD (k + 1) 0) (-(w.getD (k + 1) 0)) + (pw w k + (w.drop 1).getD k 0) - _) /\ 0 <= szs w (k + 1) + max (w.getD (k + 1) 0) (-(w.getD (k + 1) 0)) + (pw w k + (w.drop 1).getD k 0) - _;rw [e, drop_get];omega
 have hn := hneg M;have hsm : ∀ k, k <= M -> max (w.getD k 0) (-(w.getD k 0)) <= 3600000000000 := fun k hk => by
  have h1 := h k (by omega);have h2 := szs_pos (w := w) (k := k);have h3 : szs w k + max (w.getD k 0) (-(w.getD k 0)) <= 3600000000000 := h1;omega
 refine ⟨?_, fun v hv => ?_⟩
 ·-- what all are to get is what all are to give
  have hM0 : posS (du0 w M) (M + 1) <= szs w (M + 1) - max (w.getD 0 0) (-(w.getD 0 0)) := by
   have hneg2 : ∀ k, k <= M -> posS (du0 w M) (k + 1) <= max (0 - pw w M) 0 + posS (fun v => w.getD (v + 1) 0) k := by
    intro k
    induction k with
    | zero => intro _; show 0 + max (du0 w M 0) 0 <= _ + 0; unfold du0; rw [V2]; omega
    | succ k ih =>
     intro hk;have := ih (by omega);have e : du0 w M (k + 1) = w.getD (k + 1) 0 := V0 (by omega);show posS (du0 w M) (k + 1) + max (du0 w M (k + 1)) 0 <= _ + (posS _ k + max (w.getD (k + 1) 0) 0);rw [e]; omega
   have hsum : ∀ k, posS (fun v => w.getD (v + 1) 0) k <= szs w (k + 1) - max (w.getD 0 0) (-(w.getD 0 0)) /\ posS (fun v => w.getD (v + 1) 0) k - pw w k <= szs w (k + 1) - max (w.getD 0 0) (-(w.getD 0 0)) := by
    intro k
    induction k with
    | zero => show (0 : Int) <= 0 + max (w.getD 0 0) (-(w.getD 0 0)) - max (w.getD 0 0) (-(w.getD 0 0)) /\ (0 : Int) - 0 <= 0 + max (w.getD 0 0) (-(w.getD 0 0)) - max (w.getD 0 0) (-(w.getD 0 0)); omega
    | succ k ih =>
     show posS _ k + max (w.getD (k + 1) 0) 0 <= szs w (k + 1) + max (w.getD (k + 1) 0) (-(w.getD (k + 1) 0)) - _ /\ posS _ k + max (w.getD (k + 1) 0) 0 - (pw w k + (w.drop 1).getD k 0) <= szs w (k + 1) + max (w.getD (k + 1) 0) (-(w.getD (k + 1) 0)) - _;rw [drop_get]; omega
   have h1 := hneg2 M (Nat.le_refl _);have h2 := hsum M;omega
  omega
 ·by_cases e : v = 0
  ·subst e
   unfold du0;rw [V2]; omega
  ·unfold du0
   rw [V0 e];have := hsm v (by omega);omega
def pwr : Nat -> Int
 | 0 => 0
 | 1 => 1
 | e + 2 => pwr (e + 1) * 64
theorem pwr_pos : ∀ {e : Nat}, 0 < pwr (e + 1)
 | 0 => by decide
 | e + 1 => by have := pwr_pos (e := e); show 0 < pwr (e + 1) * 64; omega
theorem pwr_div : ∀ {e : Nat}, (pwr (e + 1)).tdiv 64 = pwr e
 | 0 => rfl
 | e + 1 => by show (pwr (e + 1) * 64).tdiv 64 = _; exact Int.mul_tdiv_cancel _ (by decide)
theorem pwr_dvd : ∀ {e : Nat}, pwr (e + 1) ∣ pwr (e + 2)
 | e => ⟨64, rfl⟩
theorem pwr_le : ∀ {e : Nat}, pwr (e + 1) <= 3600000000000 -> e <= 6 := fun {e} h => by
 refine Classical.byContradiction (fun q => ?_);have key : ∀ d, pwr 8 <= pwr (8 + d) := by
  intro d
  induction d with
  | zero => exact Int.le_refl _
  | succ d ih =>
   have h1 : pwr (8 + (d + 1)) = pwr (8 + d) * 64 := by
    rw [show 8 + (d + 1) = (7 + d) + 2 by omega, show 8 + d = (7 + d) + 1 by omega]; rfl
   have h2 : (0 : Int) < pwr 8 := by decide
   omega
 have h1 := key (e - 7);rw [show 8 + (e - 7) = e + 1 by omega] at h1;have h2 : pwr 8 = 4398046511104 := by decide
 omega
def bs (e : Nat) : Int := 1280000 + 2560002 * (8 - (e : Int))
theorem q64 {a : Int} (h : -3600000000000 <= a /\ a <= 3600000000000) : (-9223372036854775808 <= a.tdiv 64 /\ a.tdiv 64 < 9223372036854775808) /\ (1 <= a.tdiv 64 -> a.tdiv 64 * 64 <= a) := by
 rcases Int.lt_or_le a 0 with q | q
 ·have e : a.tdiv 64 = -((-a).tdiv 64) := by rw [Int.neg_tdiv, Int.neg_neg]
  rw [e, Int.tdiv_eq_ediv_of_nonneg (by omega)];omega
 ·rw [Int.tdiv_eq_ediv_of_nonneg q]
  omega
def stT (D : Nat -> Int) (P : Int) : Nat -> Tp
 | 0 => tp0
 | k + 1 => if D k <= -P then ⟨W2 (W2 (stT D P k).pr k 1000000000) k 0, W2 (stT D P k).cm k ⟨((stT D P k).cm k).lim, ((stT D P k).cm k).bk, -1, ((stT D P k).cm k).to, ((stT D P k).cm k).ms⟩, (stT D P k).lf⟩ else ⟨W2 (stT D P k).pr k 1000000000, (stT D P k).cm, (stT D P k).lf⟩
theorem st_yes {D : Nat -> Int} {P : Int} {k : Nat} (h : D k <= -P) : (⟨W2 (W2 (stT D P k).pr k 1000000000) k 0, W2 (stT D P k).cm k ⟨((stT D P k).cm k).lim, ((stT D P k).cm k).bk, -1, ((stT D P k).cm k).to, ((stT D P k).cm k).ms⟩, (stT D P k).lf⟩ : Tp) = stT D P (k + 1) := (if_pos h).symm
theorem st_no {D : Nat -> Int} {P : Int} {k : Nat} (h : ¬ D k <= -P) : (⟨W2 (stT D P k).pr k 1000000000, (stT D P k).cm, (stT D P k).lf⟩ : Tp) = stT D P (k + 1) := (if_neg h).symm
theorem st_at {D : Nat -> Int} {P : Int} : ∀ {k : Nat}, (∀ v, v < k -> (stT D P k).pr v = if D v <= -P then 0 else 1000000000) /\ (∀ v, v < k -> D v <= -P -> ((stT D P k).cm v).fr = -1) /\ ∀ v, (stT D P k).lf v = false
 | 0 => ⟨fun v hv => absurd hv (Nat.not_lt_zero v), fun v hv => absurd hv (Nat.not_lt_zero v), fun _ => rfl⟩
 | k + 1 => by
  obtain ⟨h1, h2, h3⟩ := st_at (D := D) (P := P) (k := k);by_cases c : D k <= -P
  ·rw [<- st_yes c]
   refine ⟨fun v hv => ?_, fun v hv hd => ?_, h3⟩
   ·show W2 (W2 (stT D P k).pr k 1000000000) k 0 v = _
    by_cases e : v = k
    ·subst e; rw [V2, if_pos c]
    ·rw [V0 e, V0 e]; exact h1 v (by omega)
   ·show (W2 (stT D P k).cm k ⟨((stT D P k).cm k).lim, ((stT D P k).cm k).bk, -1, ((stT D P k).cm k).to, ((stT D P k).cm k).ms⟩ v).fr = _
    by_cases e : v = k
    ·subst e; rw [V2]
    ·rw [V0 e]; exact h2 v (by omega) hd
  ·rw [<- st_no c]
   refine ⟨fun v hv => ?_, fun v hv hd => ?_, h3⟩
   ·show W2 (stT D P k).pr k 1000000000 v = _
    by_cases e : v = k
    ·subst e; rw [V2, if_neg c]
    ·rw [V0 e]; exact h1 v (by omega)
   ·by_cases e : v = k
    ·subst e; exact absurd hd c
    ·exact h2 v (by omega) hd
def Nr (g : Tp) (k : Nat) (z y : Int) : Prop := (z = -1 /\ y = 1000000000 /\ ∀ v, v < k -> g.lf v = false -> 1000000000 <= g.pr v) ∨ ∃ u : Nat, u < k /\ z = (u : Int) /\ g.lf u = false /\ y = g.pr u /\ y < 1000000000 /\ ∀ v, v < k -> g.lf v = false -> g.pr u <= g.pr v
theorem nr_zero {g : Tp} : Nr g 0 (-1) 1000000000 := .inl ⟨rfl, rfl, fun v hv => absurd hv (Nat.not_lt_zero v)⟩
theorem nr_left {g : Tp} {k : Nat} {z y : Int} (h : Nr g k z y) (hl : g.lf k = true) : Nr g (k + 1) z y := by
 have ex : ∀ v, v < k + 1 -> g.lf v = false -> v < k := fun v hv hf => by
  by_cases e : v = k
  ·rw [e, hl] at hf; cases hf
  ·omega
 rcases h with ⟨h1, h2, h3⟩ | ⟨u, h1, h2, h3, h4, h5, h6⟩
 ·exact .inl ⟨h1, h2, fun v hv hf => h3 v (ex v hv hf) hf⟩
 ·exact .inr ⟨u, by omega, h2, h3, h4, h5, fun v hv hf => h6 v (ex v hv hf) hf⟩
theorem nr_far {g : Tp} {k : Nat} {z y : Int} (h : Nr g k z y) (hy : ¬ g.pr k < y) : Nr g (k + 1) z y := by
 rcases h with ⟨h1, h2, h3⟩ | ⟨u, h1, h2, h3, h4, h5, h6⟩
 ·exact .inl ⟨h1, h2, fun v hv hf => by
   by_cases e : v = k; · subst e; omega
   ·exact h3 v (by omega) hf⟩
 ·exact .inr ⟨u, by omega, h2, h3, h4, h5, fun v hv hf => by
   by_cases e : v = k; · subst e; omega
   ·exact h6 v (by omega) hf⟩
theorem nr_near {g : Tp} {k : Nat} {z y : Int} (h : Nr g k z y) (hl : g.lf k = false) (hy : g.pr k < y) : Nr g (k + 1) (k : Int) (g.pr k) := by
 rcases h with ⟨h1, h2, h3⟩ | ⟨u, h1, h2, h3, h4, h5, h6⟩
 ·exact .inr ⟨k, by omega, rfl, hl, rfl, by omega, fun v hv hf => by
   by_cases e : v = k; · subst e; exact Int.le_refl _
   ·have := h3 v (by omega) hf; omega⟩
 ·exact .inr ⟨k, by omega, rfl, hl, rfl, by omega, fun v hv hf => by
   by_cases e : v = k; · subst e; exact Int.le_refl _
   ·have := h6 v (by omega) hf; omega⟩
theorem rw_skip {ts : List (List Int)} {t p : Nat -> Int} {g : Tp} {v q i : Nat} (hi : (nl ts ts.length v).getD q 0 = (i : Int)) (hb : lb ts i = v) (ht : t i = 0) : rwT ts t p g v (q + 1) = rwT ts t p g v q := by
 show rxT ts t p _ v ((nl ts ts.length v).getD q 0).toNat = _;rw [hi, Int.toNat_natCast];unfold rxT;rw [if_pos hb, if_pos ht]
theorem rw_back {ts : List (List Int)} {t p : Nat -> Int} {g : Tp} {v q i : Nat} (hi : (nl ts ts.length v).getD q 0 = (i : Int)) (hb : lb ts i = v) (ht : ¬ t i = 0) : rwT ts t p g v (q + 1) = upT p (rwT ts t p g v q) v i true (la ts i) (-(lw ts i)) := by
 show rxT ts t p _ v ((nl ts ts.length v).getD q 0).toNat = _;rw [hi, Int.toNat_natCast];unfold rxT;rw [if_pos hb, if_neg ht]
theorem rw_fwd {ts : List (List Int)} {t p : Nat -> Int} {g : Tp} {v q i : Nat} (hi : (nl ts ts.length v).getD q 0 = (i : Int)) (hb : ¬ lb ts i = v) : rwT ts t p g v (q + 1) = upT p (rwT ts t p g v q) v i false (lb ts i) (lw ts i) := by
 show rxT ts t p _ v ((nl ts ts.length v).getD q 0).toNat = _;rw [hi, Int.toNat_natCast];unfold rxT;rw [if_neg hb]
theorem up_yes {p : Nat -> Int} {g : Tp} {v i to : Nat} {bk : Bool} {ms : Int} (h : g.pr v + ms + p v - p to < g.pr to) : (⟨W2 g.pr to (g.pr v + ms + p v - p to), W2 g.cm to ⟨i, bk, (v : Int), to, ms⟩, g.lf⟩ : Tp) = upT p g v i bk to ms := (if_pos h).symm
theorem up_no {p : Nat -> Int} {g : Tp} {v i to : Nat} {bk : Bool} {ms : Int} (h : ¬ g.pr v + ms + p v - p to < g.pr to) : g = upT p g v i bk to ms := (if_neg h).symm
def ptK (p : Nat -> Int) (g : Tp) (u k : Nat) : Nat -> Int := fun v => if v < k then ptN p g u v else p v
theorem ptK_zero {p : Nat -> Int} {g : Tp} {u n : Nat} : xs p n = xs (ptK p g u 0) n := xs_ext (fun j _ => (if_neg (Nat.not_lt_zero j)).symm)
theorem ptK_at {p : Nat -> Int} {g : Tp} {u k : Nat} : ptK p g u k k = p k := if_neg (Nat.lt_irrefl k)
theorem ptK_step {p : Nat -> Int} {g : Tp} {u k : Nat} : W2 (ptK p g u k) k (ptK p g u k k + min (g.pr k) (g.pr u)) = ptK p g u (k + 1) := by
 funext v
 unfold W2;by_cases e : v = k
 ·subst e
  rw [if_pos rfl, ptK_at];exact (if_pos (Nat.lt_succ_self v)).symm
 ·rw [if_neg e]
  unfold ptK;by_cases c : v < k
  ·rw [if_pos c, if_pos (show v < k + 1 by omega)]
  ·rw [if_neg c, if_neg (show ¬ v < k + 1 by omega)]
theorem ptK_end {p : Nat -> Int} {g : Tp} {u n : Nat} : xs (ptK p g u n) n = xs (ptN p g u) n := xs_ext (fun j hj => if_pos hj)
def Rv3 (σ τ : Nat -> Cm) (m i : Nat) : Prop := ∀ t, t <= m -> τ t = if t < i ∨ m < t + i then σ (m - t) else σ t
theorem Rv3.zero {σ : Nat -> Cm} {m : Nat} : Rv3 σ σ m 0 := fun t ht => by rw [if_neg (by omega)]
theorem Rv3.step {σ τ : Nat -> Cm} {m i : Nat} (h : Rv3 σ τ m i) (hi : i < m - i) : Rv3 σ (W2 (W2 τ i (τ (m - i))) (m - i) (τ i)) m (i + 1) := fun t ht => by
 have e1 := h i (by omega);have e2 := h (m - i) (by omega);have e3 := h t ht;rw [if_neg (by omega)] at e1 e2;by_cases q1 : t = m - i
 ·subst q1; rw [V2, if_pos (by omega), e1]; congr 1; omega
 ·rw [V0 q1]
  by_cases q2 : t = i
  ·subst q2; rw [V2, if_pos (by omega), e2]
  ·rw [V0 q2, e3]
   by_cases q3 : t < i ∨ m < t + i
   ·rw [if_pos q3, if_pos (by omega)]
   ·rw [if_neg q3, if_neg (by omega)]
theorem Rv3.done {σ τ : Nat -> Cm} {m i : Nat} (h : Rv3 σ τ m i) (hi : ¬ i < m - i) : ∀ t, t <= m -> τ t = σ (m - t) := fun t ht => by
 rw [h t ht];split
 ·rfl
 ·congr 1; omega
theorem slc_opd {row : Nat -> Option (Nat × Nat × Bool)} {b n l k : Nat} (hr : row b = some (k, 3, true)) (hn : n <= k) (hl : l <= n) (h0 : 0 < n) : evSlc row 3 1 (.slice (some ⟨b, 0, none⟩) n OPEN) (some (.int .i64 (l : Int))) none none = some (.slice (some ⟨b, 0 + l * 1, none⟩) (n - l) (OPEN + (0 + l))) := by
 have hb : Nat.beq n 0 = false := beqF (by omega);show (match row b with
  | some (k, e', op) => sel (op && Nat.beq 3 e' && Nat.beq 0 ((OPEN - OPEN) * 1) && !Nat.beq 1 0 && (Nat.beq OPEN OPEN || !Nat.beq n 0)) (evSlcOpen b 1 l n k (OPEN - OPEN) none) none
  | none => none) = _
 rw [hr];show sel (Nat.ble l n && Nat.ble ((0 + n) * 1) k) (some (Value.slice (some ⟨b, (0 + l) * 1, none⟩) (n - l) (OPEN + (0 + l)))) none = _;rw [show Nat.ble l n = true from by rw [Nat.ble_eq]; exact hl, show Nat.ble ((0 + n) * 1) k = true from by rw [Nat.ble_eq]; omega, show (0 + l) * 1 = 0 + l * 1 by omega];rfl
theorem a_slcD {P : Program} {C : Nat -> (CF -> Bool) -> Bool} {X : FuncId -> List Value -> St -> (Value -> St -> Bool) -> Bool} {s0 : St} {n nt : Nat} {env : List (Nat × Value)} {A : List Ob} {R : Value -> List Ob -> Prop} {x lo : Ev.X} {a : Option Addr} {l : List Int} {c : Nat} (hl : IntsE s0 a l) (hx : xv env x = some (.slice a l.length c)) (hlo : xv env lo = some (.int .i64 1)) (h0 : 0 < l.length) (hc : CapOk s0 a l.length c)
 (hR : ∀ a' c', IntsE s0 a' (l.drop 1) -> R (.slice a' (l.drop 1).length c') A) : OpA P C X s0 n nt (.slc 3 1 x (some lo) none none) env A R := .mk fun s hs T hT k hk => by
 obtain ⟨b, o, rfl⟩ := hl.addr (by rintro rfl; simp at h0);refine Z6 hT (k := fun x => valOK T (some lo) (fun lo => valOK T none (fun hi => valOK T none (fun mx => slcK s 3 1 x lo hi mx (vK s k))))) hx ?_;refine Z6 hT (k := fun v => slcK s 3 1 _ (some v) none none (vK s k)) hlo ?_;unfold slcK;have hld : (l.drop 1).length = l.length - 1 := List.length_drop;rcases hc with ⟨hc1, hc2⟩ | ⟨hc1, b', t, m, h2, h3, h4⟩
 ·by_cases q : c = 1
  ·subst q
   have hn : l.length = 1 := by omega
   have key : evSlc (rowOf s) 3 1 (.slice (some ⟨b, o, none⟩) l.length 1) (some (.int .i64 1)) none none = some (.slice (some ⟨b, o, none⟩) (l.length - 1) 0) := by
    rw [hn]; rfl
   rw [key];show forceV (Value.slice (some ⟨b, o, none⟩) (l.length - 1) 0) (vK s k) = true;rw [forceV_eq];have := hR (some ⟨b, o, none⟩) 0 (by rw [List.drop_eq_nil_of_le (by omega)]; exact ⟨fun c hc => by cases hc; rfl, fun h => absurd rfl h, fun _ _ _ => trivial, fun x hx => (by cases hx), (by show (0:Nat) < _; decide)⟩);rw [hld] at this;exact hk _ _ ⟨A, hs, this⟩
  ·have key : evSlc (rowOf s) 3 1 (.slice (some ⟨b, o, none⟩) l.length c) (some (.int .i64 1)) none none = some (.slice (some ⟨b, o + 1 * 1, none⟩) (l.length - 1) (c - 1)) := slc_from (l := 1) (by omega) hc2 (by omega) hc1
   rw [key];show forceV (Value.slice (some ⟨b, o + 1 * 1, none⟩) (l.length - 1) (c - 1)) (vK s k) = true;rw [forceV_eq];have := hR (some ⟨b, o + 1 * 1, none⟩) (c - 1) (hl.drop h0);rw [hld] at this;exact hk _ _ ⟨A, hs, this⟩
 ·subst hc1
  cases h2;have hrow : rowOf s b = some (m, 3, true) := by
   unfold rowOf;rw [hs.2.1.2.2 b (Full.lt hs.1 h3), h3]
  have key : evSlc (rowOf s) 3 1 (.slice (some ⟨b, 0, none⟩) l.length OPEN) (some (.int .i64 1)) none none = some (.slice (some ⟨b, 0 + 1 * 1, none⟩) (l.length - 1) (OPEN + (0 + 1))) := slc_opd (l := 1) hrow h4 (by omega) (by omega);rw [key];show forceV (Value.slice (some ⟨b, 0 + 1 * 1, none⟩) (l.length - 1) (OPEN + (0 + 1))) (vK s k) = true;rw [forceV_eq];have := hR (some ⟨b, 0 + 1 * 1, none⟩) (OPEN + (0 + 1)) (hl.drop h0);rw [hld] at this;exact hk _ _ ⟨A, hs, this⟩
theorem a_slcG {P : Program} {C : Nat -> (CF -> Bool) -> Bool} {X : FuncId -> List Value -> St -> (Value -> St -> Bool) -> Bool} {s0 : St} {n nt : Nat} {env : List (Nat × Value)} {A : List Ob} {R : Value -> List Ob -> Prop} {e : Nat} {x lo : Ev.X} {b c l : Nat} {z : Int} (hx : xv env x = some (.slice (some ⟨b, 0, none⟩) c c)) (hlo : xv env lo = some (.int .i64 z)) (hz : z = (l : Int)) (hl : l <= c) (hc : c < OPEN)
 (hR : ∀ o', (l < c -> o' = l) -> R (.slice (some ⟨b, o', none⟩) (c - l) (c - l)) A) : OpA P C X s0 n nt (.slc e 1 x (some lo) none none) env A R := by
 by_cases q : l < c
 ·exact a_slcF hx hlo hz hl (Nat.le_refl _) q hc (by have := hR (0 + l * 1) (fun _ => by omega); exact this)
 ·have hlc : l = c := by omega
  subst hlc;refine .mk fun s hs T hT k hk => ?_
  subst hz;refine Z6 hT (k := fun x => valOK T (some lo) (fun lo => valOK T none (fun hi => valOK T none (fun mx => slcK s e 1 x lo hi mx (vK s k))))) hx ?_;refine Z6 hT (k := fun v => slcK s e 1 _ (some v) none none (vK s k)) hlo ?_;unfold slcK;have key : evSlc (rowOf s) e 1 (.slice (some ⟨b, 0, none⟩) l l) (some (.int .i64 (l : Int))) none none = some (.slice (some ⟨b, 0, none⟩) (l - l) (l - l)) := by
   show sel (Nat.ble OPEN l) (match rowOf s b with
    | some (k, e', op) => sel (op && Nat.beq e e' && Nat.beq 0 ((l - OPEN) * 1) && !Nat.beq 1 0 && (Nat.beq l OPEN || !Nat.beq l 0)) (evSlcOpen b 1 l l k (l - OPEN) none) none
    | none => none) (sel (Nat.ble l l) (sel (Nat.ble l l) (some (Value.slice (some ⟨b, sel (Nat.beq l l) 0 (0 + l * 1), none⟩) (l - l) (l - l))) none) none) = _
   rw [show Nat.ble OPEN l = false from by
    cases hb : Nat.ble OPEN l with
    | false => rfl
    | true => rw [Nat.ble_eq] at hb; omega, show Nat.ble l l = true from by rw [Nat.ble_eq]; exact Nat.le_refl _, show Nat.beq l l = true from by rw [Nat.beq_eq]]
   rfl
  rw [key];show forceV (Value.slice (some ⟨b, 0, none⟩) (l - l) (l - l)) (vK s k) = true;rw [forceV_eq];exact hk _ _ ⟨A, hs, hR 0 (fun h => absurd h q)⟩
theorem a_copyX {P : Program} {C : Nat -> (CF -> Bool) -> Bool} {X : FuncId -> List Value -> St -> (Value -> St -> Bool) -> Bool} {s0 : St} {n nt : Nat} {env : List (Nat × Value)} {A A' : List Ob} {R : Value -> List Ob -> Prop} {x y : Ev.X} {b b' d m e e' : Nat} {op op' : Bool} {f : Nat -> Int} {l : List Int} (hx : xv env x = some (.slice (some ⟨b, 0, none⟩) d d)) (hy : xv env y = some (.slice (some ⟨b', 0, none⟩) m m)) (hd : d <= m) (hl : l.length = d) (hs : Own A b' e' op' (ints (xs f m))) (hu : Upd A b e op (ints l) (ints (xs f d)) A') (h0 : d = 0 -> A' = A) (h : R (.int .i64 (d : Int)) A') : OpA P C X s0 n nt (.copy 1 x y) env A R := by
 by_cases q : d = 0
 ·have hA := h0 q
  subst hA;subst q;refine .mk fun s hs T hT k hk => ?_
  refine Z6 hT (k := fun x => valK T y (fun y => copyK s 1 x y k)) hx (Z6 hT (k := fun y => copyK s 1 _ y k) hy ?_);show minN m 0 (fun j => ifB (Nat.beq j 0) (k (.int .i64 (.ofNat 0)) s) (rowK s b (fun m c e op => copyToK (fun h => seeK s b' (fun c' => segK c' 0 (Nat.mul j 1) h) (fun g => romSegK g 0 (Nat.mul j 1) h)) (fun l =>
   ifB (Nat.ble (Nat.add 0 (Nat.mul j 1)) m) (putsK c 0 l (fun c => storeK s b (.cells m c e op) (k (.int .i64 (.ofNat j))))) false)))) = true
  unfold minN;have key : k (.int .i64 (.ofNat 0)) s = true := hk _ _ ⟨_, hs, h⟩;cases hm : Nat.ble m 0 with
  | true =>
   have : m = 0 := by rw [Nat.ble_eq] at hm; omega
   subst this;exact key
  | false => exact key
 ·have hx2 : xs f m = xs f d ++ (xs f m).drop d := by
   conv => lhs; rw [<- List.take_append_drop d (xs f m)]
   congr 1
   unfold xs;rw [<- List.map_take, List.take_range, Nat.min_eq_left hd]
  refine a_copy1 (op := op) (e := e) (j := d) (more := ints (xs f d)) hx hy ?_ q (by rw [ints_len, W4]) (.inl ⟨_, _, _, hs, ?_⟩) (l := ints l) (A' := A') ?_ (by rw [ints_len, hl]; omega) h
  ·by_cases c : m <= d
   ·rw [if_pos c]; omega
   ·rw [if_neg c]
  ·exact seg_of (fun t ht => by
    rw [ints_len, W4] at ht;rw [Nat.zero_add, hx2];unfold ints;rw [List.map_append, List.getElem?_append_left (by rw [List.length_map, W4]; exact ht)])
  ·have e1 : over (ints l) 0 (ints (xs f d)) = ints (xs f d) := by
    unfold over;rw [List.take_zero, List.nil_append, List.drop_eq_nil_of_le (by rw [ints_len, ints_len, W4]; omega), List.append_nil]
   rw [e1]; exact hu
section
variable {X : FuncId -> List Value -> St -> (Value -> St -> Bool) -> Bool}
end
theorem deld_at {x : Ob} {qs : List Nat} {A A' : List Ob} (h : DelD A qs A') : DelD (x :: A) qs (x :: A') := by
 induction h with
 | nil => exact .nil
 | cons h k ih => exact .cons (.next h) ih
theorem tr_frc {g : Tp} {j : Nat} {z : Int} (h : j < 65) (e : (g.cm j).fr = z) : (trC g)[0 + 65 + j * 5 + 2]? = some (.int .i64 z) := by rw [tr_fr h, e]
theorem cml_frc {σ : Nat -> Cm} {n j : Nat} {z : Int} (h : j < n) (e : (σ j).fr = z) : (cml σ n)[0 + j * 5 + 2]? = some (.int .i64 z) := by
 rw [cml_get h (by decide)];show some (Value.int .i64 (σ j).fr) = _;rw [e]
theorem cml_toc {σ : Nat -> Cm} {n j v : Nat} (h : j < n) (e : (σ j).to = v) : (cml σ n)[0 + j * 5 + 3]? = some (.int .i64 (v : Int)) := by
 rw [cml_get h (by decide)];show some (Value.int .i64 ((σ j).to : Int)) = _;rw [e]
theorem xs_tl {T : Nat -> Int} {K a o k : Nat} (ho : o = a) (hk : a + k < K) : (ints (xs T K))[o + k * 1]? = some (.int .i64 (T (a + k))) := by
 subst ho;unfold ints xs;rw [List.getElem?_map, List.getElem?_map, List.getElem?_range (by omega), Nat.mul_one]; rfl
theorem mx_bd {D : Nat -> Int} {M : Nat} (h : ∀ v, v < M + 1 -> -3600000000000 <= D v /\ D v <= 3600000000000) : -3600000000000 <= mxV (xs D (M + 1)) ((xs D (M + 1)).length - 1) /\ mxV (xs D (M + 1)) ((xs D (M + 1)).length - 1) <= 3600000000000 := by
 obtain ⟨j, h1, h2⟩ := mx_mem (l := xs D (M + 1)) (k := (xs D (M + 1)).length - 1);rw [W4] at h1;rw [h2, V4 (by omega)];exact h j (by omega)
theorem Lv.ps_le {ls : List (List Int)} {M : Nat} {w D t p : Nat -> Int} {P base : Int} (h : Lv ls M w D t p P base) : posS D (M + 1) <= 3600000000000 := by
 have h1 := tot_nn (f := t) h.ld.nn;have h2 := h.tm;omega
theorem pos_mem {D : Nat -> Int} {N v : Nat} (hv : v < N) : D v <= posS D N := by
 have := tot_mem (f := fun v => max (D v) 0) (fun i _ => by show 0 <= max (D i) 0; omega) v hv;have h2 : max (D v) 0 <= posS D N := this;omega
theorem neg_mem {D : Nat -> Int} {N v : Nat} (hs : tot D N = 0) (hv : v < N) : -(D v) <= posS D N := by
 have h1 := tot_mem (f := fun v => max (D v) 0 - D v) (fun i _ => by show 0 <= max (D i) 0 - D i; omega) v hv;have h2 := tot_sub (f := fun v => max (D v) 0) (g := D) (N := N);have h3 : tot (fun v => max (D v) 0) N = posS D N := rfl;have h4 : max (D v) 0 - D v <= tot (fun v => max (D v) 0 - D v) N := h1;omega
theorem Lv.d_bd {ls : List (List Int)} {M : Nat} {w D t p : Nat -> Int} {P base : Int} (h : Lv ls M w D t p P base) : ∀ v, v < M + 1 -> -3600000000000 <= D v /\ D v <= 3600000000000 := fun v hv => by
 have h1 := h.ps_le;have h2 := pos_mem (D := D) hv;have h3 := neg_mem h.sm hv;omega
theorem Lv.t_bd {ls : List (List Int)} {M : Nat} {w D t p : Nat -> Int} {P base : Int} (h : Lv ls M w D t p P base) : ∀ i, i < (ls ++ W1 M).length -> 0 <= t i /\ t i <= 230400000000000 := fun i hi => by
 have h1 := tot_mem (f := t) h.ld.nn i hi;have h2 := h.tm;have h3 := posS_nn (d := D) (N := M + 1);exact ⟨h.ld.nn i hi, by omega⟩
theorem bs_bd {f : Nat} (h : f <= 8) : 1280000 <= bs f /\ bs f <= 21760016 := by unfold bs; omega
theorem Lv.p_bd {ls : List (List Int)} {M f : Nat} {w D t p : Nat -> Int} {P : Int} (h : Lv ls M w D t p P (bs f)) (hf : f <= 8) : ∀ v, v < M + 1 -> -1300000 <= p v /\ p v <= 30000000 := fun v hv => by
 have h1 := h.pu v hv;have h2 := h.pl v hv;have h3 := bs_bd hf;omega
theorem lv_start {ls : List (List Int)} {M e : Nat} {w : List Int} {p0 : Nat -> Int} (hM : M <= 64) (hw : w.length = M + 1) (hwo : WOk w w.length) (h1 : ∀ i, i < ls.length -> p0 (lb ls i) <= p0 (la ls i) + lw ls i) (h2 : ∀ v, v < M + 1 -> -1280000 <= p0 v /\ p0 v <= 1280000) (h3 : p0 0 = 0) (he : e <= 6) : Lv ls M (du0 w M) (du0 w M) (fun _ => 0) p0 (pwr (e + 1)) (bs (e + 1)) := by
 have hb := bs_bd (f := e + 1) (by omega);obtain ⟨d1, d2⟩ := du_pos hw hwo;have hK : (ls ++ W1 M).length = ls.length + 2 * M := by rw [List.length_append, toll_len]
 have h0 : ∀ v k, net (ls ++ W1 M) (fun _ => 0) k v = 0 := by
  intro v k
  induction k with
  | zero => rfl
  | succ k ih =>
   show net _ _ k v + _ = 0;rw [ih]; simp
 refine ⟨⟨fun _ _ => Int.le_refl _, fun v _ => by rw [h0]; omega, fun i hi => ?_, fun i hi hp => absurd hp (by decide)⟩, fun i _ => ⟨0, by simp⟩, du_tot, ?_, fun v hv _ => by have := h2 v hv; omega, fun v hv => by have := h2 v hv; omega, fun v hv => by have := h2 v hv; omega, fun i _ => by omega⟩
 ·by_cases q : i < ls.length
  ·obtain ⟨e1, e2, e3⟩ := app_fld (us := W1 M) q
   rw [e1, e2, e3]; exact h1 i q
  ·obtain ⟨j, hj, hd⟩ : ∃ j, j < M /\ (i = ls.length + 2 * j ∨ i = ls.length + 2 * j + 1) := ⟨(i - ls.length) / 2, by omega, by omega⟩
   obtain ⟨t1, t2⟩ := tl_up (ls := ls) hj;have := h2 (j + 1) (by omega);rcases hd with rfl | rfl
   ·obtain ⟨e1, e2, e3⟩ := fld t1
    rw [e1, e2, e3, h3]; omega
   ·obtain ⟨e1, e2, e3⟩ := fld t2
    rw [e1, e2, e3, h3]; omega
 ·rw [tot_nil (fun _ _ => rfl)]; omega
def P2I (ls : List (List Int)) (M : Nat) (w D T p : Nat -> Int) (e : Nat) : Prop := e <= 7 /\ ((e = 0 /\ (∀ v, v < M + 1 -> D v = 0) /\ Lv ls M w D T p 1 (bs 1)) ∨ (0 < e /\ Lv ls M w D T p (pwr e) (bs e)))
theorem p2_start {ls : List (List Int)} {M e : Nat} {w D T p : Nat -> Int} (he : e <= 6) (h : Lv ls M w D T p (pwr (e + 1)) (bs (e + 1))) : P2I ls M w D T p (e + 1) := ⟨by omega, .inr ⟨by omega, h⟩⟩
theorem p2_go {ls : List (List Int)} {M e : Nat} {w D T p : Nat -> Int} (h : P2I ls M w D T p e) (hp : 0 < pwr e) : ∃ f, e = f + 1 /\ f <= 6 /\ Lv ls M w D T p (pwr (f + 1)) (bs (f + 1)) := by
 obtain ⟨h1, ⟨h2, _⟩ | ⟨h2, h3⟩⟩ := h
 ·subst h2; exact absurd hp (by decide)
 ·obtain ⟨f, rfl⟩ : ∃ f, e = f + 1 := ⟨e - 1, by omega⟩
  exact ⟨f, rfl, by omega, h3⟩
theorem p2_end {ls : List (List Int)} {M e : Nat} {w D T p : Nat -> Int} (h : P2I ls M w D T p e) (hp : ¬ 0 < pwr e) : (∀ v, v < M + 1 -> D v = 0) /\ Lv ls M w D T p 1 (bs 1) := by
 obtain ⟨h1, ⟨h2, h3⟩ | ⟨h2, h3⟩⟩ := h
 ·exact h3
 ·obtain ⟨f, rfl⟩ : ∃ f, e = f + 1 := ⟨e - 1, by omega⟩
  exact absurd pwr_pos hp
theorem Dj.rg {ts : List (List Int)} {N : Nat} {t p : Nat -> Int} {S : Nat -> Prop} {U : Int} {g : Tp} {rk : Nat -> Nat} (hj : Dj ts N t p S U g rk) (hU : U <= 30000000) (hN : N <= 65) (hp : ∀ v, v < N -> -1300000 <= p v /\ p v <= 30000000) : ∀ v, v < N -> 0 <= g.pr v /\ g.pr v <= 1000000000 := fun v hv => by
 refine ⟨hj.pos v hv, ?_⟩;have h1 := cnB_le (f := g.lf) (N := N);have h2 := hp v hv;rcases hj.bd v hv with q | q <;> omega
theorem Dq.rg {ts : List (List Int)} {N : Nat} {t p : Nat -> Int} {S : Nat -> Prop} {U : Int} {g h : Tp} {v0 : Nat} {rk : Nat -> Nat} (hj : Dj ts N t p S U g rk) (hr : ∀ v, v < N -> 0 <= g.pr v /\ g.pr v <= 1000000000) (hv0 : v0 < N) (hq : Dq ts N t p S U g v0 rk h) : ∀ v, v < N -> 0 <= h.pr v /\ h.pr v <= 1000000000 := fun v hv => by
 have h1 := hq.le v hv;have h2 := hr v hv;have h3 := hr v0 hv0;cases e : h.lf v with
 | true => have := hq.vis v hv e; omega
 | false => have := hq.ord v hv e; omega
theorem p2_next {ls : List (List Int)} {M f : Nat} {w D T p : Nat -> Int} {g : Tp} {rk : Nat -> Nat} {y : Int} (hl : lmB (M : Int) ls = true) (hM : M <= 64) (hf : f <= 6) (h : Lv ls M w D T p (pwr (f + 1)) (bs (f + 1))) (hj : Dj (ls ++ W1 M) (M + 1) T p (fun v => D v <= -(pwr (f + 1))) (bs (f + 1)) g rk) (hnd : ∀ v, v < M + 1 -> g.lf v = true -> D v < pwr (f + 1)) (hN : Nr g (M + 1) (-1) y) : P2I ls M w D T p f := by
 have hb := bs_bd (f := f + 1) (by omega);have hrg := hj.rg (by omega) (by omega) (h.p_bd (by omega));have hall : ∀ v, v < M + 1 -> g.lf v = false -> g.pr v = 1000000000 := fun v hv hl' => by
  rcases hN with ⟨_, _, n3⟩ | ⟨u, _, n2, _⟩
  ·have h1 := n3 v hv hl'
   have h2 := (hrg v hv).2;omega
  ·omega
 refine ⟨by omega, ?_⟩;cases f with
 | zero => exact .inl ⟨rfl, Lv.done hl hM h (by omega) hj hall hnd, h⟩
 | succ f =>
  have := h.finer (pwr_dvd (e := f));rw [show bs (f + 1 + 1) + 2560002 = bs (f + 1) by unfold bs; omega] at this;exact .inr ⟨by omega, this⟩
theorem du_rng {w : List Int} {k : Nat} (h : WOk w w.length) (hk : k + 1 < w.length) : (-3600000000000 <= du0 w k 0 /\ du0 w k 0 <= 3600000000000) /\ -7200000000000 <= (w.drop 1).getD k 0 /\ (w.drop 1).getD k 0 <= 7200000000000 := by
 have e : du0 w k 0 = 0 - pw w k := by unfold du0; rw [V2]
 have a1 := pw_bd (w := w) (k := k);have a2 := pw_bd (w := w) (k := k + 1);have a3 := wok_le h (k := k + 1) (by omega);have a4 := wok_le h (k := k + 1 + 1) (by omega);have a5 : pw w (k + 1) = pw w k + (w.drop 1).getD k 0 := rfl;omega
theorem tw_bd {t : Nat -> Int} {n : Int} {σ : Nat -> Cm} {K : Nat} (h : ∀ i, i < K -> 0 <= t i /\ t i <= 230400000000000) (hn : 0 <= n /\ n <= 3600000000000) : ∀ {m i : Nat}, i < K -> -3600000000000 * (m : Int) <= twT t n σ m i /\ twT t n σ m i <= 230400000000000 + 3600000000000 * (m : Int)
 | 0, i, hi => by have := h i hi; show _ <= t i /\ t i <= _; omega
 | m + 1, i, hi => by
  have ih := tw_bd h hn (σ := σ) (m := m) hi;show _ <= W2 _ _ _ i /\ W2 _ _ _ i <= _;by_cases e : i = (σ m).lim
  ·rw [e, V2]
   rw [e] at ih;split <;> omega
  ·rw [V0 e]; omega
theorem tw_yes {t : Nat -> Int} {n : Int} {σ : Nat -> Cm} {m : Nat} (h : (σ m).bk = true) : W2 (twT t n σ m) (σ m).lim (twT t n σ m (σ m).lim - n) = twT t n σ (m + 1) := by
 show _ = W2 _ _ (if (σ m).bk = true then _ else _);rw [if_pos h]
theorem tw_no {t : Nat -> Int} {n : Int} {σ : Nat -> Cm} {m : Nat} (h : (σ m).bk = false) : W2 (twT t n σ m) (σ m).lim (twT t n σ m (σ m).lim + n) = twT t n σ (m + 1) := by
 show _ = W2 _ _ (if (σ m).bk = true then _ else _);rw [if_neg (by rw [h]; decide)]
theorem nm_yes {t : Nat -> Int} {σ : Nat -> Cm} {z : Int} {m : Nat} (h : (σ m).bk = true) : min (nmV t σ z m) (t (σ m).lim) = nmV t σ z (m + 1) := (if_pos h).symm
theorem nm_no {t : Nat -> Int} {σ : Nat -> Cm} {z : Int} {m : Nat} (h : (σ m).bk = false) : nmV t σ z m = nmV t σ z (m + 1) := (if_neg (by rw [h]; decide)).symm
theorem rv_end {g : Tp} {vz m i : Nat} {τ : Nat -> Cm} (h : Rv3 (fun j => g.cm (chn g vz j)) τ m i) (hi : ¬ i < m - i) : cml τ (m + 1) = cml (stp' g vz (m + 1)) (m + 1) := cml_ext (fun j hj => by
 rw [h.done hi j (by omega)];show g.cm (chn g vz (m - j)) = g.cm (chn g vz (m + 1 - 1 - j));rw [show m + 1 - 1 - j = m - j by omega])
theorem cn_next {g h : Tp} {v0 M : Nat} (e : h.lf = W2 g.lf v0 true) (hv : g.lf v0 = false) (hlt : v0 < M + 1) : M + 1 - cnB h.lf (M + 1) < M + 1 - cnB g.lf (M + 1) := by
 have h1 := cnB_lt hv hlt;rw [e, cnB_upd hv hlt]; omega
theorem nd_next {g h : Tp} {v0 M : Nat} {D : Nat -> Int} {P : Int} (e : h.lf = W2 g.lf v0 true) (hnd : ∀ v, v < M + 1 -> g.lf v = true -> D v < P) (h0 : ¬ P <= D v0) : ∀ v, v < M + 1 -> h.lf v = true -> D v < P := fun v hv hl => by
 rw [e] at hl;by_cases q : v = v0
 ·rw [q]; omega
 ·rw [V0 q] at hl; exact hnd v hv hl
theorem dj_first {ts : List (List Int)} {M : Nat} {t p D : Nat -> Int} {P U : Int} (hU : ∀ v, v < M + 1 -> D v <= -P -> p v <= U) : Dj ts (M + 1) t p (fun v => D v <= -P) U (stT D P (M + 1)) (fun _ => 0) := by
 obtain ⟨h1, h2, h3⟩ := st_at (D := D) (P := P) (k := M + 1);exact Dj.start h1 h2 (fun v _ => h3 v) hU
theorem nd_first {M : Nat} {D : Nat -> Int} {P : Int} : ∀ v, v < M + 1 -> (stT D P (M + 1)).lf v = true -> D v < P := fun v _ hl => by
 rw [(st_at (D := D) (P := P) (k := M + 1)).2.2 v] at hl; cases hl
theorem way_go {ts : List (List Int)} {N : Nat} {t p D : Nat -> Int} {P U : Int} {g : Tp} {rk : Nat -> Nat} {vz : Nat} (hj : Dj ts N t p (fun v => D v <= -P) U g rk) (hv : vz < N) (hf : ¬ g.pr vz = 1000000000) (hP : 0 < P) (hd : P <= D vz) : ¬ (g.cm vz).fr = -1 := by
 rcases hj.cam vz hv hf with q | ⟨u, _, _, u3, _⟩
 ·have q : D vz <= -P := q
  omega
 ·have := u3.fr; omega
section
variable {X : FuncId -> List Value -> St -> (Value -> St -> Bool) -> Bool}
end
end Ev
end Go.Proofs.Ytoeklhdklcpllaa
