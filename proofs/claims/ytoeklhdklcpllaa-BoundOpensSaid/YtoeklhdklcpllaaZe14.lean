import Derived.Test.YtoeklhdklcpllaaZe13
import Derived.Test.YtoeklhdklcpllaaZe10
import Derived.Test.YtoeklhdklcpllaaZe11
import Derived.Test.YtoeklhdklcpllaaZe09
set_option linter.unusedVariables false
set_option linter.unusedSimpArgs false
namespace Go.Proofs.Ytoeklhdklcpllaa
open Go Go.RowKit
namespace Ev
theorem sum_pr {t z : Int} (ht : 0 <= t) (hz : -20000 <= z /\ z <= 20000) : -(20000 * t) <= t * z /\ t * z <= 20000 * t := by
 have h1 := Int.mul_le_mul_of_nonneg_left hz.2 ht
 have h2 := Int.mul_le_mul_of_nonneg_left hz.1 ht
 rw [Int.mul_comm t 20000] at h1
 rw [Int.mul_comm t (-20000)] at h2
 omega
theorem sum_bd {t z : Nat -> Int} {K : Nat} : ∀ {k : Nat}, k <= K -> (∀ i, i < K -> 0 <= t i) -> (∀ i, i < K -> -20000 <= z i /\ z i <= 20000) -> -(20000 * tot t k) <= tot (fun i => t i * z i) k /\ tot (fun i => t i * z i) k <= 20000 * tot t k
 | 0, _, _, _ => by show -(20000 * (0 : Int)) <= 0 /\ (0 : Int) <= 20000 * 0; omega
 | k + 1, hk, ht, hz => by
  have ih := sum_bd (k := k) (by omega) ht hz
  have h1 := sum_pr (ht k (by omega)) (hz k (by omega))
  show -(20000 * (tot t k + t k)) <= tot (fun i => t i * z i) k + t k * z k /\ tot (fun i => t i * z i) k + t k * z k <= 20000 * (tot t k + t k)
  omega
theorem lw_row {ls : List (List Int)} {k : Nat} {y0 y1 y2 y3 : Int} (h : ls[k]? = some [y0, y1, y2, y3]) : lw ls k = y2 := by
 unfold lw
 rw [show ls.getD k [] = [y0, y1, y2, y3] from by rw [List.getD_eq_getElem?_getD, h]; rfl]; rfl
theorem sum_rng {ls : List (List Int)} {M : Nat} {w t p : Nat -> Int} {k : Nat} (hl : lmB (M : Int) ls = true) (h : Opt ls (M + 1) w t p) (hs : tot t ls.length <= 230400000000000) (hk : k < ls.length) : (-4608000000000000000 <= tot (fun i => t i * lw ls i) k /\ tot (fun i => t i * lw ls i) k <= 4608000000000000000) /\ (-4608000000000000000 <= t k * lw ls k /\ t k * lw ls k <= 4608000000000000000) /\ (-4608000000000000000 <= tot (fun i => t i * lw ls i) k + t k * lw ls k /\ tot (fun i => t i * lw ls i) k + t k * lw ls k <= 4608000000000000000) := by
 have hz : ∀ i, i < ls.length -> -20000 <= lw ls i /\ lw ls i <= 20000 := fun i hi => lw_bd' hl hi
 have h1 := sum_bd (t := t) (z := lw ls) (K := ls.length) (k := k) (by omega) h.nn hz
 have h2 := sum_bd (t := t) (z := lw ls) (K := ls.length) (k := k + 1) (by omega) h.nn hz
 have h3 := tot_part (f := t) (K0 := k) (K := ls.length) (by omega) h.nn
 have h4 := tot_part (f := t) (K0 := k + 1) (K := ls.length) (by omega) h.nn
 have h5 := sum_pr (h.nn k hk) (hz k hk)
 have h6 := tot_mem (f := t) h.nn k hk
 have h7 : tot (fun i => t i * lw ls i) (k + 1) = tot (fun i => t i * lw ls i) k + t k * lw ls k := rfl
 rw [h7] at h2
 omega
section
variable {X : FuncId -> List Value -> St -> (Value -> St -> Bool) -> Bool}
set_option maxRecDepth 100000 in
theorem Most_s (n : Nat) (m : Int) (al : Option Addr) (cl : Nat) (ls : List (List Int)) (aw : Option Addr) (cw : Nat) (w : List Int) (s : St) (hs : Wf s) (hn : 7318349394477056 <= n) (hL : RowsE s 4 al ls) (hcl : al = none -> cl = 0) (hW : IntsE s aw w) (hCap : CapOk s aw w.length cw) : Spec Try.prog (tabK tabw) X (n + 10000) 10 [.agg ⟨[.int .i64 m, .slice al ls.length cl]⟩, .slice aw w.length cw] s (fun v A => (¬ sysE m ls = 0 /\ v = .tuple #[.int .i64 0, .int .i64 (sysE m ls)] /\ A = []) ∨ (sysE m ls = 0 /\ ¬ ((w.length : Int) = m + 1 /\ WOk w w.length) /\ v = .tuple #[.int .i64 0, .int .i64 27] /\ A = []) ∨ (sysE m ls = 0 /\ ((w.length : Int) = m + 1 /\ WOk w w.length) /\ Uns ls (m.toNat + 1) /\ v = .tuple #[.int .i64 0, .int .i64 23] /\ A = []) ∨ (sysE m ls = 0 /\ ((w.length : Int) = m + 1 /\ WOk w w.length) /\ ¬ Uns ls (m.toNat + 1) /\ Opn ls (m.toNat + 1) (du0 w m.toNat) /\ v = .tuple #[.int .i64 0, .int .i64 22] /\ A = []) ∨ (sysE m ls = 0 /\ ((w.length : Int) = m + 1 /\ WOk w w.length) /\ ¬ Uns ls (m.toNat + 1) /\ ∃ t p, Opt ls (m.toNat + 1) (du0 w m.toNat) t p /\ tot t ls.length <= 230400000000000 /\ (∀ v, v < m.toNat + 1 -> -1300000 <= p v /\ p v <= 30000000) /\ v = .tuple #[.int .i64 (tot (fun i => t i * lw ls i) ls.length), .int .i64 0] /\ A = [])) := by
 refine enter bw10_at rfl hs ?_
 unfold bw10
 have hlen := hL.len
 have hlenW := hW.len
 refine rS (kO rfl (a_box rfl rfl rfl (fun b1 => (kM rfl rfl (kM rfl rfl (i_nil (rS (kO rfl (a_lda rfl (by decide) .here rfl (kM rfl rfl (kO rfl (a_call rfl rfl (fun s1 h1 => solve_s _ m al cl ls aw cw w s1 h1.wf (by omega) (hL.ext hs h1.2.1) hcl (hW.ext hs h1.2.1) (hCap.ext hs h1.2.1)) (fun v1 A1 q1 => ?_)))))))))))))
 rcases q1 with ⟨hsx, rfl, rfl⟩ | ⟨hsys, hww, rfl, rfl⟩ | ⟨hsys, hww, hun, rfl, rfl⟩ | ⟨hsys, hww, hnu, hop, rfl, rfl⟩ | ⟨hsys, hww, hnu, q1⟩
 ·have hsx9 := hsx
  refine kM rfl rfl (kO rfl (a_ext rfl rfl (kO rfl (a_ext rfl rfl (kM rfl rfl (kM rfl rfl (i_nil (rQ (rS (kM rfl rfl (kO rfl (a_neq rfl rfl (fun h5 => ?_) (fun h5 => ?_)))))))))))))
  ·refine i_nil (r_cond_t rfl (rS (kM rfl rfl (kM rfl rfl (kM rfl rfl (i_nil (r_ret (then_r ?_))))))))
   exact end2 rfl rfl (.inl ⟨hsx, rfl, rfl⟩)
  ·exfalso; omega
 ·have hww9 := hww
  refine kM rfl rfl (kO rfl (a_ext rfl rfl (kO rfl (a_ext rfl rfl (kM rfl rfl (kM rfl rfl (i_nil (rQ (rS (kM rfl rfl (kO rfl (a_neq rfl rfl (fun _ => (i_nil (r_cond_t rfl (rS (kM rfl rfl (kM rfl rfl (kM rfl rfl (i_nil (r_ret (then_r ?_)))))))))) (fun h => absurd h (by decide))))))))))))))
  exact end2 rfl rfl (.inr (.inl ⟨hsys, hww, rfl, rfl⟩))
 ·have hun9 := hun
  refine kM rfl rfl (kO rfl (a_ext rfl rfl (kO rfl (a_ext rfl rfl (kM rfl rfl (kM rfl rfl (i_nil (rQ (rS (kM rfl rfl (kO rfl (a_neq rfl rfl (fun _ => (i_nil (r_cond_t rfl (rS (kM rfl rfl (kM rfl rfl (kM rfl rfl (i_nil (r_ret (then_r ?_)))))))))) (fun h => absurd h (by decide))))))))))))))
  exact end2 rfl rfl (.inr (.inr (.inl ⟨hsys, hww, hun, rfl, rfl⟩)))
 ·have hop9 := hop
  refine kM rfl rfl (kO rfl (a_ext rfl rfl (kO rfl (a_ext rfl rfl (kM rfl rfl (kM rfl rfl (i_nil (rQ (rS (kM rfl rfl (kO rfl (a_neq rfl rfl (fun _ => (i_nil (r_cond_t rfl (rS (kM rfl rfl (kM rfl rfl (kM rfl rfl (i_nil (r_ret (then_r ?_)))))))))) (fun h => absurd h (by decide))))))))))))))
  exact end2 rfl rfl (.inr (.inr (.inr (.inl ⟨hsys, hww, hnu, hop, rfl, rfl⟩))))
 ·obtain ⟨hm0, hM, h400, hlm⟩ := sysE_ok hsys
  obtain ⟨M, rfl⟩ : ∃ q : Nat, m = (q : Int) := ⟨m.toNat, by omega⟩
  obtain ⟨t, p, hOp, htb, hts, hpb, bf2, bt3, bn4, O, B, rfl, rfl, hO⟩ := q1
  rw [Int.toNat_natCast, List.append_assoc, List.cons_append, List.cons_append, List.cons_append, List.nil_append]
  have hMM := hM
  change Opt ls (M + 1) (du0 w M) t p at hOp
  change ∀ v, v < M + 1 -> _ at hpb
  have hwl : w.length = M + 1 := by omega
  refine kM rfl rfl (kO rfl (a_ext rfl rfl (kO rfl (a_ext rfl rfl (kM rfl rfl (kM rfl rfl (i_nil (rQ (rS (kM rfl rfl (kO rfl (a_neq rfl rfl (fun h => absurd h (by decide)) (fun _ => (i_nil (r_cond_f rfl (r_skip (then_n (rS (kM rfl rfl (kG rfl rfl (a_inl rfl rfl bw26_at rfl ?_)))))))))))))))))))))
  unfold bw26
  refine rS (kM rfl rfl (i_nil (rS (kM rfl rfl (i_nil (rQ (rS (kM rfl rfl (kO rfl (a_nilc rfl (kO rfl (a_fa rfl (kO rfl (a_fa rfl (kO rfl (a_ld rfl (.app .here) rfl (kO rfl (a_lenx rfl hL.spot (kM rfl rfl (i_nil (r_block ?_)))))))))))))))))))))
  refine r_loop (fun j e A => ∃ (k : Nat), e = [(0, .pointer (some ⟨bf2, 0, none⟩)), (3, .int .i64 (tot (fun i => t i * lw ls i) k)), (10, .slice al ls.length cl), (11, .int .i64 (ls.length : Int)), (12, .int .i64 (k : Int))] /\ A = (nobj B (nl ls ls.length) O ++ (.row bf2 93 false ([.int .i64 (M : Int), .slice al ls.length cl, .slice (some ⟨bt3, 0, none⟩) ls.length ls.length, .slice (some ⟨bn4, 0, none⟩) (M + 1) (M + 1)]) :: (.row bn4 25 false (nsl B (nl ls ls.length) (M + 1)) :: (.row bt3 3 false (ints (xs t ls.length)) :: [])))) /\ j = ls.length - k /\ k <= ls.length) 200 0 281474976710656 ?_ (j := _) (env2 := _) (A2 := _) ?_ ?_ ?_ ?_ ⟨0, rfl, rfl, rfl, Nat.zero_le _⟩
  rotate_left
  ·omega
  ·omega
  ·exact (lc 0 rfl (lc 3 rfl (lc 10 rfl (lc 11 rfl (lc 12 rfl Less.nil)))))
  ·exact (.r (.q (.q (.q (.cons _ .slnil)))))
  rintro n hn j _ _ ⟨k, rfl, rfl, rfl, hk⟩
  refine rS (kO rfl (a_lss rfl rfl (fun h10 => ?_) (fun h10 => ?_)))
  ·obtain ⟨q4, o4, y0, y1, y2, y3, ahL, hx, hat, i0, i1, i2, i3⟩ := hL.row4 (k := k) (by omega)
   have hat2 := hat
   obtain ⟨d0, d1, d2, d3, _⟩ := hat2
   have := i0.lo; have := i0.hi
   have := i1.lo; have := i1.hi
   have := i2.lo; have := i2.hi
   have := i3.lo; have := i3.hi
   have hlw9 := lw_row hx
   have hsr9 := sum_rng hlm hOp hts (show k < ls.length by omega)
   rw [hlw9] at hsr9
   refine i_nil (rQ (r_cond_t rfl (r_skip (then_n (rQ (r_block (rS (kM rfl rfl (kO rfl (a_iaA (j := k) ahL rfl rfl (by first | rfl | omega) (by first | decide | omega) (kO rfl (a_ldar rfl (by decide) (by assumption) rfl (kO rfl (a_new rfl rfl (fun b11 => (kM rfl rfl (kZ rfl (a_sta rfl rfl .here rfl rfl rfl rfl (i_nil (rI (kM rfl rfl (kM rfl rfl (kO rfl (a_nilc rfl (kO rfl (a_fa rfl (kO rfl (a_ld rfl (.next (.app .here)) rfl (kM rfl rfl (kO rfl (a_ia (j := k) rfl rfl (by omega) (by omega) (kO rfl (a_ldX (x := (t) (k)) rfl (.next (.app (.next (.next .here)))) (by rw [xs_len]; omega) (xs_get (by omega)) ?_)))))))))))))))))))))))))))))))))
   refine kO rfl (a_fa rfl (kO rfl (a_ld rfl .here rfl (kO rfl (a_mul rfl rfl (by omega) (kO rfl (a_add rfl rfl (by omega) (kM rfl rfl (i_nil (block_n (then_n (rI (kO rfl (a_add rfl rfl (by omega) (kM rfl rfl (i_nil (then_n ?_)))))))))))))))))
   exact ⟨rfl, _, _, _, (show ls.length - (k + 1) < ls.length - k by omega), (lc 0 rfl (lc 3 (by show some (Value.int .i64 (_ + t k * y2)) = some (Value.int .i64 (tot (fun i => t i * lw ls i) k + t k * lw ls k)); rw [hlw9]) (lc 10 rfl (lc 11 rfl (lc 12 rfl Less.nil))))), (.cons _ (.r (.q (.q (.q .slnil))))), ⟨k + 1, rfl, rfl, rfl, by omega⟩⟩
  ·have hkl : k = ls.length := by omega
   subst hkl
   refine i_nil (rQ (r_cond_f rfl (r_exit (then_e (then_e (block_hit (then_n (rS (kM rfl rfl (kM rfl rfl (i_nil (r_ret (endD1 rfl .nil (kM rfl rfl (kM rfl rfl (i_nil (r_ret ?_)))))))))))))))))
   exact end2 rfl rfl (.inr (.inr (.inr (.inr ⟨hsys, hww, hnu, t, p, hOp, hts, hpb, rfl, rfl⟩))))
end
end Ev
end Go.Proofs.Ytoeklhdklcpllaa
namespace Go.Proofs.Ytoeklhdklcpllaa
open Go Go.RowKit
namespace Ev
def T0 : Nat -> Nat -> Int := fun i k => if i = k then 0 else 1000000000
def limT (ls : List (List Int)) : Nat -> Nat -> Nat -> Int
 | 0 => T0
 | k + 1 => updT (limT ls k) ((ls.getD k []).getD 0 0).toNat ((ls.getD k []).getD 1 0).toNat (min (limT ls k ((ls.getD k []).getD 0 0).toNat ((ls.getD k []).getD 1 0).toNat) ((ls.getD k []).getD 2 0))
def stp (T : Nat -> Nat -> Int) (m i k : Nat) : Nat -> Nat -> Int :=
 if ¬ T i m = 1000000000 /\ ¬ T m k = 1000000000 then updT T i k (max (min (T i k) (T i m + T m k)) (-2560000)) else T
def kT (T : Nat -> Nat -> Int) (m i : Nat) : Nat -> Nat -> Nat -> Int
 | 0 => T
 | k + 1 => stp (kT T m i k) m i k
def iT (T : Nat -> Nat -> Int) (N m : Nat) : Nat -> Nat -> Nat -> Int
 | 0 => T
 | i + 1 => kT (iT T N m i) m i N
def mT (T : Nat -> Nat -> Int) (N : Nat) : Nat -> Nat -> Nat -> Int
 | 0 => T
 | m + 1 => iT (mT T N m) N m N
def wm (ls : List (List Int)) (N m : Nat) : Nat -> Nat -> Int := mT (limT ls ls.length) N m
theorem twice : ∀ {L : List Nat}, ¬ L.Nodup -> ∃ v A B C, L = A ++ v :: (B ++ v :: C)
 | [], h => absurd List.nodup_nil h
 | u :: L, h => by
  by_cases hu : u ∈ L
  ·obtain ⟨B, C, e⟩ := List.append_of_mem hu
   exact ⟨u, [], B, C, by rw [e]; rfl⟩
  ·have : ¬ L.Nodup := fun q => h (List.nodup_cons.2 ⟨hu, q⟩)
   obtain ⟨v, A, B, C, e⟩ := twice this
   exact ⟨v, u :: A, B, C, by rw [e]; rfl⟩
section
variable {X : FuncId -> List Value -> St -> (Value -> St -> Bool) -> Bool}
end
end Ev
end Go.Proofs.Ytoeklhdklcpllaa
namespace Go.Proofs.Ytoeklhdklcpllaa
open Go Go.RowKit
namespace Ev
section
variable {X : FuncId -> List Value -> St -> (Value -> St -> Bool) -> Bool}
end
end Ev
end Go.Proofs.Ytoeklhdklcpllaa
namespace Go.Proofs.Ytoeklhdklcpllaa
open Go Go.RowKit
namespace Ev
section
variable {X : FuncId -> List Value -> St -> (Value -> St -> Bool) -> Bool}
end
end Ev
end Go.Proofs.Ytoeklhdklcpllaa
namespace Go.Proofs.Ytoeklhdklcpllaa
open Go Go.RowKit
namespace Ev
section
variable {X : FuncId -> List Value -> St -> (Value -> St -> Bool) -> Bool}
end
end Ev
end Go.Proofs.Ytoeklhdklcpllaa
namespace Go.Proofs.Ytoeklhdklcpllaa
open Go Go.RowKit
namespace Ev
section
variable {X : FuncId -> List Value -> St -> (Value -> St -> Bool) -> Bool}
end
end Ev
end Go.Proofs.Ytoeklhdklcpllaa
namespace Go.Proofs.Ytoeklhdklcpllaa
open Go Go.RowKit
namespace Ev
section
variable {X : FuncId -> List Value -> St -> (Value -> St -> Bool) -> Bool}
end
end Ev
end Go.Proofs.Ytoeklhdklcpllaa
namespace Go.Proofs.Ytoeklhdklcpllaa
open Go Go.RowKit
namespace Ev
section
variable {X : FuncId -> List Value -> St -> (Value -> St -> Bool) -> Bool}
end
end Ev
end Go.Proofs.Ytoeklhdklcpllaa
namespace Go.Proofs.Ytoeklhdklcpllaa
open Go Go.RowKit
namespace Ev
section
variable {X : FuncId -> List Value -> St -> (Value -> St -> Bool) -> Bool}
end
end Ev
end Go.Proofs.Ytoeklhdklcpllaa
namespace Go.Proofs.Ytoeklhdklcpllaa
open Go Go.RowKit
namespace Ev
theorem endc2A {s0 : St} {env : List (Nat × Value)} {A A' : List Ob} {a u b o m e : Nat} {op : Bool} {l r : List Value} {w : Value} {Q : Value -> List Ob -> Prop} (ha : look env a = some (.pointer (some ⟨b, o, none⟩))) (h0 : m ≠ 0) (hs : A'.Sublist A) (ho : Own A b e op l) (hv : segL l o m = some r) (hu : look env u = some w) (hq : Q (.tuple #[.agg ⟨r⟩, w]) A') : EndA s0 [.cell a (some m), .tmp u] Q .ret env [] A :=
 ⟨rfl, [.agg ⟨r⟩, w], A', ⟨b, o, r, [w], rfl, ha, h0, ⟨e, op, l, ho, hv⟩, w, [], rfl, hu, rfl⟩, hs, hq⟩
section
variable {X : FuncId -> List Value -> St -> (Value -> St -> Bool) -> Bool}
end
end Ev
end Go.Proofs.Ytoeklhdklcpllaa
namespace Go.Proofs.Ytoeklhdklcpllaa
open Go Go.RowKit
namespace Ev
theorem hN_of {ls : List (List Int)} {M : Nat} (hl : lmB (M : Int) ls = true) : ∀ i, i < ls.length -> la ls i < M + 1 /\ lb ls i < M + 1 := fun i hi => by
 obtain ⟨h1, h2, _⟩ := lg_of hl i hi
 exact ⟨h1, h2⟩
section
variable {X : FuncId -> List Value -> St -> (Value -> St -> Bool) -> Bool}
end
end Ev
end Go.Proofs.Ytoeklhdklcpllaa
namespace Go.Proofs.Ytoeklhdklcpllaa
open Go Go.RowKit
namespace Ev
def modN (x m : Int) : Int := (x.tmod m + m).tmod m
theorem modN_bd {x m : Int} (h : 0 < m) : 0 <= modN x m /\ modN x m < m := by
 have h1 := tmodP_bd (x := x) h
 unfold modN
 exact ⟨Int.tmod_nonneg m (by omega), Int.tmod_lt_of_pos _ h⟩
theorem modN_sm {x m : Int} (h : 0 <= x) (h2 : x < m) : modN x m = x := by
 unfold modN
 rw [Int.tmod_eq_emod_of_nonneg h, Int.emod_eq_of_lt h h2, Int.tmod_eq_emod_of_nonneg (by omega), Int.add_emod_right, Int.emod_eq_of_lt h h2]
theorem modN_up {x m : Int} (h : m <= x) (h0 : 0 < m) (h2 : x < m + m) : modN x m = x - m := by
 have e1 : x.tmod m = x - m := by
  have e : x = (x - m) + m := by omega
  have e2 : x % m = x - m := by
   rw [e, Int.add_emod_right, Int.emod_eq_of_lt (by omega) (by omega)]; omega
  rw [Int.tmod_eq_emod_of_nonneg (by omega), e2]
 unfold modN
 rw [e1, Int.tmod_eq_emod_of_nonneg (by omega), Int.add_emod_right, Int.emod_eq_of_lt (by omega) (by omega)]
def mdM (r0 : Int) : Nat := (1 + modN r0 6).toNat
theorem mdM_bd {r0 : Int} : 1 <= mdM r0 /\ mdM r0 <= 6 /\ 1 + modN r0 6 = (mdM r0 : Int) := by
 have := modN_bd (x := r0) (m := 6) (by decide)
 unfold mdM; omega
def mdRow (M : Nat) (y0 y1 y2 y3 : Int) : List Int := [modN y0 ((M : Int) + 1), modN (modN y0 ((M : Int) + 1) + 1 + modN y1 (M : Int)) ((M : Int) + 1), modN y2 141 - 40, 1 + modN y3 6]
def mdR (M : Nat) (r : List Int) : List Int := mdRow M (r.getD 0 0) (r.getD 1 0) (r.getD 2 0) (r.getD 3 0)
def mdL (M : Nat) (rs : List (List Int)) : List (List Int) := (rs.take 20).map (mdR M)
def mdK (M : Nat) (rs : List (List Int)) (k : Nat) : List (List Int) := (rs.take k).map (mdR M)
theorem mdK_len {M : Nat} {rs : List (List Int)} {k : Nat} (h : k <= rs.length) : (mdK M rs k).length = k := by unfold mdK; rw [List.length_map, List.length_take]; omega
theorem mdL_len {M : Nat} {rs : List (List Int)} : (mdL M rs).length <= 20 := by unfold mdL; rw [List.length_map, List.length_take]; omega
theorem mdK_step {M : Nat} {rs : List (List Int)} {k : Nat} {y0 y1 y2 y3 : Int} (h : rs[k]? = some [y0, y1, y2, y3]) : mdK M rs (k + 1) = mdK M rs k ++ [mdRow M y0 y1 y2 y3] := by
 unfold mdK
 rw [List.take_add_one, h, List.map_append]; rfl
theorem limC_row {y0 y1 y2 y3 : Int} : limC [[y0, y1, y2, y3]] = [.int .i64 y0, .int .i64 y1, .int .i64 y2, .int .i64 y3] := by kernel_rfl
theorem mdK_app {M : Nat} {rs : List (List Int)} {k : Nat} {y0 y1 y2 y3 : Int} (h : rs[k]? = some [y0, y1, y2, y3]) : limC (mdK M rs k) ++ [.int .i64 (modN y0 ((M : Int) + 1)), .int .i64 (modN (modN y0 ((M : Int) + 1) + 1 + modN y1 (M : Int)) ((M : Int) + 1)), .int .i64 (modN y2 141 - 40), .int .i64 (1 + modN y3 6)] = limC (mdK M rs (k + 1)) := by
 rw [mdK_step h, limC_app]
 congr 1
 exact limC_row.symm
theorem mdK_20 {M : Nat} {rs : List (List Int)} : mdK M rs 20 = mdL M rs := rfl
theorem mdK_all {M : Nat} {rs : List (List Int)} (h : rs.length <= 20) : mdK M rs rs.length = mdL M rs := by
 unfold mdK mdL
 rw [List.take_of_length_le (Nat.le_refl _), List.take_of_length_le h]
theorem md_ok {M : Nat} {r : List Int} (h1 : 1 <= M) (h2 : M <= 6) : ∃ y0 y1 y2 y3 : Int, mdR M r = [y0, y1, y2, y3] /\ ((0 <= (M : Int) /\ (M : Int) <= 64) /\ (0 <= y0 /\ y0 <= M) /\ (0 <= y1 /\ y1 <= M) /\ ¬ y0 = y1 /\ (-20000 <= y2 /\ y2 <= 20000) /\ (1 <= y3 /\ y3 <= 99999)) /\ (-100 <= y2 /\ y2 <= 100) /\ (1 <= y3 /\ y3 <= 6) := by
 have a0 := modN_bd (x := r.getD 0 0) (m := (M : Int) + 1) (by omega)
 have a1 := modN_bd (x := r.getD 1 0) (m := (M : Int)) (by omega)
 have a2 := modN_bd (x := r.getD 2 0) (m := 141) (by decide)
 have a3 := modN_bd (x := r.getD 3 0) (m := 6) (by decide)
 have a4 := modN_bd (x := modN (r.getD 0 0) ((M : Int) + 1) + 1 + modN (r.getD 1 0) (M : Int)) (m := (M : Int) + 1) (by omega)
 have ne : ¬ modN (r.getD 0 0) ((M : Int) + 1) = modN (modN (r.getD 0 0) ((M : Int) + 1) + 1 + modN (r.getD 1 0) (M : Int)) ((M : Int) + 1) := by
  by_cases c : modN (r.getD 0 0) ((M : Int) + 1) + 1 + modN (r.getD 1 0) (M : Int) < (M : Int) + 1
  ·rw [modN_sm (x := modN (r.getD 0 0) ((M : Int) + 1) + 1 + modN (r.getD 1 0) (M : Int)) (by omega) c]; omega
  ·rw [modN_up (x := modN (r.getD 0 0) ((M : Int) + 1) + 1 + modN (r.getD 1 0) (M : Int)) (by omega) (by omega) (by omega)]; omega
 exact ⟨_, _, _, _, rfl, ⟨by omega, by omega, by omega, ne, by omega, by omega⟩, by omega, by omega⟩
theorem mdL_row {M : Nat} {rs : List (List Int)} {k : Nat} {y : List Int} (h : (mdL M rs)[k]? = some y) : ∃ r, y = mdR M r := by
 unfold mdL at h
 rw [List.getElem?_map] at h
 cases q : (rs.take 20)[k]? with
 | none => rw [q] at h; cases h
 | some r => rw [q] at h; cases h; exact ⟨r, rfl⟩
theorem mdL_lm {M : Nat} {rs : List (List Int)} (h1 : 1 <= M) (h2 : M <= 6) : lmB (M : Int) (mdL M rs) = true := by
 have key : ∀ k, k <= (mdL M rs).length -> lmB (M : Int) (mdL M rs) = lmB (M : Int) ((mdL M rs).drop k) := by
  intro k
  induction k with
  | zero => intro _; rfl
  | succ k ih =>
   intro hk
   have hx := List.getElem?_eq_getElem (l := mdL M rs) (i := k) (by omega)
   obtain ⟨r, hr⟩ := mdL_row hx
   obtain ⟨y0, y1, y2, y3, e, hc, _⟩ := md_ok (r := r) h1 h2
   rw [hr, e] at hx
   exact lmB_good hx (ih (by omega)) hc
 exact lmB_end (key _ (Nat.le_refl _)) (Nat.le_refl _)
theorem mdL_w {M : Nat} {rs : List (List Int)} (h1 : 1 <= M) (h2 : M <= 6) : ∀ i, i < (mdL M rs).length -> -100 <= lw (mdL M rs) i /\ lw (mdL M rs) i <= 100 := fun i hi => by
 have hx := List.getElem?_eq_getElem (l := mdL M rs) (i := i) hi
 obtain ⟨r, hr⟩ := mdL_row hx
 obtain ⟨y0, y1, y2, y3, e, hc, hd, _⟩ := md_ok (r := r) h1 h2
 rw [hr, e] at hx
 rw [lw_row hx]; exact hd
theorem mdL_fit {M : Nat} {rs : List (List Int)} (h1 : 1 <= M) (h2 : M <= 6) : ∀ r ∈ mdL M rs, r.length = 4 /\ ∀ x ∈ r, -9223372036854775808 <= x /\ x < 9223372036854775808 := fun r hr => by
 obtain ⟨k, hk, e⟩ := List.mem_iff_getElem.1 hr
 obtain ⟨q, hq⟩ := mdL_row (List.getElem?_eq_getElem hk)
 obtain ⟨y0, y1, y2, y3, e2, hc, _⟩ := md_ok (r := q) h1 h2
 rw [<- e, hq, e2]
 refine ⟨rfl, fun x hx => ?_⟩
 simp only [List.mem_cons, List.not_mem_nil, or_false] at hx
 omega
theorem mdL_sys {M : Nat} {rs : List (List Int)} (h1 : 1 <= M) (h2 : M <= 6) : sysE (M : Int) (mdL M rs) = 0 := by
 have := mdL_len (M := M) (rs := rs)
 unfold sysE
 rw [if_pos (by omega), if_neg (by omega), if_pos (mdL_lm h1 h2)]
def TlR (TT : Nat) (a : Option Addr) (n c : Nat) (ts : List (List Int)) (TL : List Ob) : Prop := (a = none /\ n = 0 /\ c = 0 /\ ts = [] /\ TL = []) ∨ ∃ b op, a = some ⟨b, 0, none⟩ /\ 0 < n /\ ts.length = n /\ Tight op n c /\ TL = [.row b TT op (limC ts)]
theorem TlR.ok {TT : Nat} {a : Option Addr} {n c : Nat} {ts : List (List Int)} {TL : List Ob} (h : TlR TT a n c ts TL) : TlOk TT a ts TL /\ n = ts.length /\ (a = none -> c = 0) := by
 rcases h with ⟨rfl, rfl, rfl, rfl, rfl⟩ | ⟨b, op, rfl, h0, h1, h2, rfl⟩
 ·exact ⟨.inl ⟨rfl, rfl, fun b hb => by cases hb⟩, rfl, fun _ => rfl⟩
 ·exact ⟨.inr ⟨b, op, rfl, rfl⟩, h1.symm, fun q => by cases q⟩
theorem TlR.spot {TT : Nat} {a : Option Addr} {n c : Nat} {ts : List (List Int)} {TL : List Ob} (h : TlR TT a n c ts TL) : ∀ b, a = some b -> b.spot = none := fun b hb => by
 rcases h with ⟨rfl, _⟩ | ⟨b', op, rfl, _⟩
 ·cases hb
 ·cases hb; rfl
theorem a_appT {P : Program} {C : Nat -> (CF -> Bool) -> Bool} {X : FuncId -> List Value -> St -> (Value -> St -> Bool) -> Bool} {s0 : St} {n nt : Nat} {env : List (Nat × Value)} {A A1 A2 UL : List Ob} {R : Value -> List Ob -> Prop} {TU k c : Nat} {a : Option Addr} {ts : List (List Int)} {more z : List Value} {x y : Ev.X} {yv : Value} (hU : TlR TU a k c ts UL) (hA : A = A1 ++ (UL ++ A2)) (hx : xv env x = some (.slice a k c)) (hy : xv env y = some yv) (hsrc : Src s0 A 4 1 more yv) (hm : (1 : Nat) ≠ 0) (hb1 : k + 1 <= 1048576) (hb2 : 32 * (k + 1) <= 1073741824)
 (h : ∀ b, R (.slice (some ⟨b, 0, none⟩) (k + 1) OPEN) (.row b TU true (limC ts ++ more) :: (A1 ++ A2))) : OpA P C X s0 n nt (.app TU 4 32 z false x y) env A R := by
 rcases hU with ⟨rfl, rfl, rfl, rfl, rfl⟩ | ⟨b, op, rfl, h0, hl, ht, rfl⟩
 ·subst hA
  exact a_appn hx hy hsrc hm (by omega) (by omega) (fun b => by have := h b; exact this)
 ·subst hA
  have hd : Del (A1 ++ ([.row b TU op (limC ts)] ++ A2)) b TU op (limC ts) (A1 ++ A2) := by
   clear hsrc h
   induction A1 with
   | nil => exact .here
   | cons q A1 ih => exact .next ih
  exact a_app hx hy hsrc hd (by rw [limC_len, hl]) ht hm (by omega) (by omega) h
def IlR (TT : Nat) (a : Option Addr) (n c : Nat) (l : List Int) (TL : List Ob) : Prop := (a = none /\ n = 0 /\ c = 0 /\ l = [] /\ TL = []) ∨ ∃ b op, a = some ⟨b, 0, none⟩ /\ 0 < n /\ l.length = n /\ Tight op n c /\ TL = [.row b TT op (ints l)]
theorem a_appI {P : Program} {C : Nat -> (CF -> Bool) -> Bool} {X : FuncId -> List Value -> St -> (Value -> St -> Bool) -> Bool} {s0 : St} {n nt : Nat} {env : List (Nat × Value)} {A A1 A2 UL : List Ob} {R : Value -> List Ob -> Prop} {TU k c : Nat} {a : Option Addr} {l : List Int} {more z : List Value} {x y : Ev.X} {yv : Value} (hU : IlR TU a k c l UL) (hA : A = A1 ++ (UL ++ A2)) (hx : xv env x = some (.slice a k c)) (hy : xv env y = some yv) (hsrc : Src s0 A 1 1 more yv) (hm : (1 : Nat) ≠ 0) (hb1 : k + 1 <= 1048576) (hb2 : 8 * (k + 1) <= 1073741824)
 (h : ∀ b, R (.slice (some ⟨b, 0, none⟩) (k + 1) OPEN) (.row b TU true (ints l ++ more) :: (A1 ++ A2))) : OpA P C X s0 n nt (.app TU 1 8 z false x y) env A R := by
 rcases hU with ⟨rfl, rfl, rfl, rfl, rfl⟩ | ⟨b, op, rfl, h0, hl, ht, rfl⟩
 ·subst hA
  exact a_appn hx hy hsrc hm (by omega) (by omega) (fun b => by have := h b; exact this)
 ·subst hA
  have hd : Del (A1 ++ ([.row b TU op (ints l)] ++ A2)) b TU op (ints l) (A1 ++ A2) := by
   clear hsrc h
   induction A1 with
   | nil => exact .here
   | cons q A1 ih => exact .next ih
  exact a_app hx hy hsrc hd (by rw [ints_len, hl, Nat.mul_one]) ht hm (by omega) (by omega) h
def wgV (l : List Int) (i : Nat) : Int := if l.length = 0 then 0 else modN (l.getD (i % l.length) 0) 61 - 30
def wgL (l : List Int) (k : Nat) : List Int := (List.range k).map (wgV l)
theorem wgL_len {l : List Int} {k : Nat} : (wgL l k).length = k := by simp [wgL]
theorem wgL_step {l : List Int} {k : Nat} : wgL l (k + 1) = wgL l k ++ [wgV l k] := by unfold wgL; rw [List.range_succ, List.map_append]; rfl
theorem wgL_app {l : List Int} {k : Nat} {z : Int} (h : z = wgV l k) : ints (wgL l k) ++ [.int .i64 z] = ints (wgL l (k + 1)) := by rw [wgL_step, h]; unfold ints; rw [List.map_append]; rfl
theorem wgV_bd {l : List Int} {i : Nat} : -30 <= wgV l i /\ wgV l i <= 30 := by
 unfold wgV
 split
 ·omega
 ·have := modN_bd (x := l.getD (i % l.length) 0) (m := 61) (by decide)
  omega
theorem wgL_get {l : List Int} {k i : Nat} (h : i < k) : (wgL l k).getD i 0 = wgV l i := by
 unfold wgL
 rw [List.getD_eq_getElem?_getD, List.getElem?_map, List.getElem?_range h]; rfl
theorem wgL_ok {l : List Int} {k : Nat} (hk : k <= 1000000) : WOk (wgL l k) (wgL l k).length := by
 have key : ∀ i, i <= k -> szs (wgL l k) i <= 30 * (i : Int) := by
  intro i
  induction i with
  | zero => intro _; exact Int.le_refl _
  | succ i ih =>
   intro hi
   have a1 := ih (by omega)
   have a2 := wgV_bd (l := l) (i := i)
   show szs (wgL l k) i + max ((wgL l k).getD i 0) (-((wgL l k).getD i 0)) <= _
   rw [wgL_get (by omega)]; omega
 intro i hi
 rw [wgL_len] at hi
 have := key (i + 1) (by omega)
 omega
theorem wgL_fit {l : List Int} {k : Nat} : ∀ z ∈ wgL l k, -9223372036854775808 <= z /\ z < 9223372036854775808 := fun z hz => by
 obtain ⟨i, _, rfl⟩ := List.mem_map.1 hz
 have := wgV_bd (l := l) (i := i)
 omega
section
variable {X : FuncId -> List Value -> St -> (Value -> St -> Bool) -> Bool}
theorem mod_s (n : Nat) (x m : Int) (s : St) (hs : Wf s) (hm : 0 < m /\ m <= 4000000000) : Spec Try.prog (tabK tabw) X (n + 60) 14 [.int .i64 x, .int .i64 m] s (fun v A => v = .int .i64 (modN x m) /\ A = []) := by
 refine enter bw14_at rfl hs ?_
 unfold bw14
 have hq := tmodP_bd (x := x) hm.1
 refine rS (kM rfl rfl (i_nil (rS (kM rfl rfl (kM rfl rfl (kO rfl (a_rem rfl rfl (by omega) (kM rfl rfl (kO rfl (a_add rfl rfl (by omega) (kM rfl rfl (kO rfl (a_rem rfl rfl (by omega) (kM rfl rfl (i_nil (r_ret ?_))))))))))))))))
 exact end1 rfl ⟨rfl, rfl⟩
theorem made_s (n : Nat) (r0 : Int) (ar : Option Addr) (cr : Nat) (rs : List (List Int)) (s : St) (hs : Wf s) (hn : 562949953421312 <= n) (hR : RowsE s 4 ar rs) : Spec Try.prog (tabK tabw) X (n + 800) 8 [.agg ⟨[.int .i64 r0, .slice ar rs.length cr]⟩] s (fun v A => ∃ al cl TL, v = .agg ⟨[.int .i64 (mdM r0 : Int), .slice al (mdL (mdM r0) rs).length cl]⟩ /\ A = TL /\ TlR 38 al (mdL (mdM r0) rs).length cl (mdL (mdM r0) rs) TL) := by
 refine enter bw8_at rfl hs ?_
 unfold bw8
 have hlen := hR.len
 obtain ⟨hM1, hM6, hMe⟩ := mdM_bd (r0 := r0)
 have hmr := modN_bd (x := r0) (m := 6) (by decide)
 generalize hMg : mdM r0 = M at *
 refine rS (kO rfl (a_box rfl rfl rfl (fun b1 => (kO rfl (a_new rfl rfl (fun b2 => (i_nil (rS (kO rfl (a_fa rfl (kO rfl (a_ld rfl (.next .here) rfl (kO rfl (a_callV rfl rfl (fun s1 h1 => mod_s _ _ _ s1 h1.wf (by omega)) (kO rfl (a_add rfl rfl (by omega) ?_))))))))))))))))
 rw [hMe]
 refine kO rfl (a_build rfl rfl (kO rfl (a_new rfl rfl (fun b3 => (kZ rfl (a_sta rfl rfl .here rfl rfl rfl rfl (i_nil (rQ (rS (kO rfl (a_fa rfl (kO rfl (a_ld rfl (.next (.next .here)) rfl (kO rfl (a_lenx rfl hR.spot (kM rfl rfl (i_nil (r_block ?_))))))))))))))))))
 refine r_loop (fun j e A => ∃ (k : Nat) (aT : Option Addr) (n9 cp : Nat) (TL : List Ob), e = [(2, .pointer (some ⟨b2, 0, none⟩)), (3, .pointer (some ⟨b3, 0, none⟩)), (14, .slice ar rs.length cr), (15, .int .i64 (rs.length : Int)), (16, .int .i64 (k : Int))] /\ A = (TL ++ (.row b3 29 false ([.int .i64 (M : Int), .slice aT n9 cp]) :: (.row b2 29 false ([.int .i64 0, .slice none 0 0]) :: []))) /\ j = rs.length - k /\ k <= rs.length /\ k <= 20 /\ n9 = k /\ TlR 38 aT n9 cp (mdK M rs k) TL) 300 0 281474976710656 ?_ (j := _) (env2 := _) (A2 := _) ?_ ?_ ?_ ?_ ⟨0, none, 0, 0, [], rfl, rfl, rfl, Nat.zero_le _, Nat.zero_le _, rfl, (.inl ⟨rfl, rfl, rfl, rfl, rfl⟩)⟩
 rotate_left
 ·omega
 ·omega
 ·exact (lc 2 rfl (lc 3 rfl (lc 14 rfl (lc 15 rfl (lc 16 rfl Less.nil)))))
 ·exact (.q (.q (.cons _ .slnil)))
 rintro n hn j _ _ ⟨k, aT, n9, cp, TL, rfl, rfl, rfl, hk, hk20, hn9, hU⟩
 have hsp9 := hU.spot
 refine rS (kO rfl (a_lss rfl rfl (fun h4 => ?_) (fun h4 => ?_)))
 ·obtain ⟨q4, o4, y0, y1, y2, y3, ahR, hx, hat, i0, i1, i2, i3⟩ := hR.row4 (k := k) (by omega)
  have hat2 := hat
  obtain ⟨d0, d1, d2, d3, _⟩ := hat2
  have m0 := modN_bd (x := y0) (m := (M : Int) + 1) (by omega)
  have m1 := modN_bd (x := y1) (m := (M : Int)) (by omega)
  have m2 := modN_bd (x := y2) (m := 141) (by decide)
  have m3 := modN_bd (x := y3) (m := 6) (by decide)
  refine i_nil (rQ (r_cond_t rfl (r_skip (then_n (rQ (r_block (rS (kM rfl rfl (kO rfl (a_iaA (j := k) ahR rfl rfl (by first | rfl | omega) (by first | decide | omega) (kO rfl (a_ldar rfl (by decide) (by assumption) rfl (kO rfl (a_new rfl rfl (fun b5 => (kM rfl rfl (kZ rfl (a_sta rfl rfl .here rfl rfl rfl rfl (i_nil (rQ (rS (kM rfl rfl (kO rfl (a_eql rfl rfl (fun h6 => ?_) (fun h6 => ?_)))))))))))))))))))))))))
  ·refine i_nil (r_cond_t rfl (r_exit (then_e (block_miss rfl (then_e (then_e (block_hit (then_n (rS (kO rfl (a_lda rfl (by decide) (.next (.app .here)) rfl (kZ rfl (a_sta rfl rfl (.next (.app (.next .here))) rfl rfl rfl rfl (i_nil (r_ret ?_)))))))))))))))
   have hz9 : mdK M rs k = mdL M rs := by
    first
     | (rw [show k = 20 by omega]; exact mdK_20)
     | (rw [show k = rs.length by omega]; exact mdK_all (by omega))
   rw [hz9] at hU
   obtain ⟨hz1, hz2, hz3⟩ := hU.ok
   exact endcA rfl (by decide) (.cons _ (List.sublist_append_left _ _)) (.next (.app (.next .here))) rfl ⟨aT, cp, TL, by rw [<- hz2], rfl, hz2 ▸ hU⟩
  ·refine i_nil (r_cond_f rfl (r_skip (then_n (rS (kO rfl (a_iaa (j := 0) rfl rfl (by decide) (by decide) (kO rfl (a_ld rfl .here rfl (kO rfl (a_fa rfl (kO rfl (a_ld rfl (.next (.app .here)) rfl (kO rfl (a_add rfl rfl (by omega) (kO rfl (a_callV rfl rfl (fun s1 h1 => mod_s _ _ _ s1 h1.wf (by omega)) (kM rfl rfl (i_nil (rS (kM rfl rfl (kO rfl (a_add rfl rfl (by omega) (kO rfl (a_iaa (j := 1) rfl rfl (by decide) (by decide) (kO rfl (a_ld rfl .here rfl (kO rfl (a_fa rfl (kO rfl (a_ld rfl (.next (.app .here)) rfl (kO rfl (a_fa rfl (kO rfl (a_ld rfl (.next (.app .here)) rfl (kO rfl (a_add rfl rfl (by omega) (kO rfl (a_callV rfl rfl (fun s1 h1 => mod_s _ _ _ s1 h1.wf (by omega)) ?_))))))))))))))))))))))))))))))))))))))
   refine kZ rfl (a_again rfl rfl (.next (.app .here)) rfl (by simp [eqV, eqA, eqL, kindEq, intEq_eq, eqV_sl hR.spot, eqV_sl hsp9]) (kO rfl (a_add rfl rfl (by omega) (kO rfl (a_callV rfl rfl (fun s1 h1 => mod_s _ _ _ s1 h1.wf (by omega)) (kM rfl rfl (i_nil (rI (kO rfl (a_fa rfl (kO rfl (a_ld rfl (.next (.app .here)) rfl (kM rfl rfl (kM rfl rfl (kO rfl (a_iaa (j := 2) rfl rfl (by decide) (by decide) (kO rfl (a_ld rfl .here rfl (kO rfl (a_iaa (j := 3) rfl rfl (by decide) (by decide) (kO rfl (a_ld rfl .here rfl (kO rfl (a_callV rfl rfl (fun s1 h1 => mod_s _ _ _ s1 h1.wf (by omega)) (kZ rfl (a_again rfl rfl .here rfl (by simp [eqV, eqA, eqL, kindEq, intEq_eq, eqV_sl hR.spot, eqV_sl hsp9]) (kZ rfl (a_again rfl rfl (.next (.app .here)) rfl (by simp [eqV, eqA, eqL, kindEq, intEq_eq, eqV_sl hR.spot, eqV_sl hsp9]) (kO rfl (a_sub rfl rfl (by omega) (kO rfl (a_callV rfl rfl (fun s1 h1 => mod_s _ _ _ s1 h1.wf (by omega)) (kZ rfl (a_again rfl rfl (.next (.app .here)) rfl (by simp [eqV, eqA, eqL, kindEq, intEq_eq, eqV_sl hR.spot, eqV_sl hsp9]) (kO rfl (a_add rfl rfl (by omega) (kO rfl (a_build rfl rfl (kO rfl (a_lit rfl rfl rfl (fun b7 => (kO rfl (a_appT (A1 := [_, _]) hU rfl rfl rfl (Src.own .here rfl (by simp)) (by decide) (by omega) (by omega) (fun b8 => ?_))))))))))))))))))))))))))))))))))))))))))))
   refine kO rfl (a_fa rfl (kZ rfl (a_st rfl rfl (.next (.next (.next .here))) rfl rfl (i_nil (block_n (then_n (rI (kO rfl (a_add rfl rfl (by omega) (kM rfl rfl (i_nil (then_n ?_))))))))))))
   exact ⟨rfl, _, _, _, (show rs.length - (k + 1) < rs.length - k by omega), (lc 2 rfl (lc 3 rfl (lc 14 rfl (lc 15 rfl (lc 16 rfl Less.nil))))), (.q (.cons _ (.cons _ (.q (.q .slnil))))), ⟨k + 1, some ⟨b8, 0, none⟩, n9 + 1, OPEN, [.row b8 38 true (limC (mdK M rs (k + 1)))], rfl, (by rw [<- mdK_app hx]; rfl), rfl, by omega, by omega, by omega, (.inr ⟨_, _, rfl, by omega, by rw [mdK_len (by omega)]; omega, .inl ⟨rfl, rfl⟩, rfl⟩)⟩⟩
 ·refine i_nil (rQ (r_cond_f rfl (r_exit (then_e (then_e (block_hit (then_n (rS (kO rfl (a_lda rfl (by decide) (.app .here) rfl (kZ rfl (a_sta rfl rfl (.app (.next .here)) rfl rfl rfl rfl (i_nil (r_ret ?_))))))))))))))
  have hz9 : mdK M rs k = mdL M rs := by
   first
    | (rw [show k = 20 by omega]; exact mdK_20)
    | (rw [show k = rs.length by omega]; exact mdK_all (by omega))
  rw [hz9] at hU
  obtain ⟨hz1, hz2, hz3⟩ := hU.ok
  exact endcA rfl (by decide) (List.sublist_append_left _ _) (.app (.next .here)) rfl ⟨aT, cp, TL, by rw [<- hz2], rfl, hz2 ▸ hU⟩
theorem weights_s (n : Nat) (M : Nat) (al : Option Addr) (cl nl9 : Nat) (a1 : Option Addr) (c1 : Nat) (l : List Int) (s : St) (hs : Wf s) (hn : 562949953421312 <= n) (hI : IntsE s a1 l) (hM : M <= 64) : Spec Try.prog (tabK tabw) X (n + 500) 9 [.agg ⟨[.int .i64 (M : Int), .slice al nl9 cl]⟩, .slice a1 l.length c1] s (fun v A => ∃ b op c, v = .slice (some ⟨b, 0, none⟩) (M + 1) c /\ Tight op (M + 1) c /\ A = [.row b 3 op (ints (wgL l (M + 1)))]) := by
 refine enter bw9_at rfl hs ?_
 unfold bw9
 have hlen := hI.len
 refine rS (kO rfl (a_box rfl rfl rfl (fun b1 => (kM rfl rfl (i_nil (rS (kM rfl rfl (i_nil (rQ (rS (kM rfl rfl (i_nil (r_block ?_)))))))))))))
 refine r_loop (fun j e A => ∃ (k : Nat) (aT : Option Addr) (n9 cp : Nat) (TL : List Ob), e = [(1, .slice a1 l.length c1), (2, .pointer (some ⟨b1, 0, none⟩)), (5, .slice aT n9 cp), (6, .int .i64 (k : Int))] /\ A = (TL ++ (.row b1 29 false ([.int .i64 (M : Int), .slice al nl9 cl]) :: [])) /\ j = M + 1 - k /\ k <= M + 1 /\ n9 = k /\ IlR 3 aT n9 cp (wgL l k) TL) 300 0 281474976710656 ?_ (j := _) (env2 := _) (A2 := _) ?_ ?_ ?_ ?_ ⟨0, none, 0, 0, [], rfl, rfl, rfl, Nat.zero_le _, rfl, (.inl ⟨rfl, rfl, rfl, rfl, rfl⟩)⟩
 rotate_left
 ·omega
 ·omega
 ·exact (lc 1 rfl (lc 2 rfl (lc 5 rfl (lc 6 rfl Less.nil))))
 ·exact (.q .slnil)
 rintro n hn j _ _ ⟨k, aT, n9, cp, TL, rfl, rfl, rfl, hk, hn9, hU⟩
 refine rQ (rS (kM rfl rfl (kO rfl (a_fa rfl (kO rfl (a_ld rfl (.app .here) rfl (kO rfl (a_leq rfl rfl (fun h2 => ?_) (fun h2 => ?_)))))))))
 ·refine i_nil (r_cond_t rfl (r_skip (then_n (rQ (r_block (rS (kM rfl rfl (i_nil (rQ (rS (kM rfl rfl (kO rfl (a_lenx rfl hI.spot (kO rfl (a_gtr rfl rfl (fun h3 => ?_) (fun h3 => ?_))))))))))))))))
  ·refine i_nil (r_cond_t rfl (rI (kM rfl rfl (kM rfl rfl (kM rfl rfl (kO rfl (a_lenx rfl hI.spot ?_)))))))
   have hmd9 : k % l.length < l.length := Nat.mod_lt _ (by omega)
   refine kO rfl (a_rem rfl rfl (by omega) (kO rfl (a_iaI (j := k % l.length) hI rfl rfl rfl rfl (by omega) (fun _ _ a99 => (kO rfl (a_ldr rfl (hI.at a99 (by omega)) (kO rfl (a_callV rfl rfl (fun s1 h1 => mod_s _ _ _ s1 h1.wf (by omega)) ?_))))))))
   have m9 := modN_bd (x := l.getD (k % l.length) 0) (m := 61) (by decide)
   refine kO rfl (a_sub rfl rfl (by omega) (kM rfl rfl (i_nil (then_n (rI (kM rfl rfl (kM rfl rfl (kO rfl (a_lit rfl rfl rfl (fun b5 => (kO rfl (a_appI (A1 := [_]) hU rfl rfl rfl (Src.own .here rfl (by simp)) (by decide) (by omega) (by omega) (fun b6 => (kM rfl rfl (i_nil (block_n (then_n (rI (kM rfl rfl (kO rfl (a_add rfl rfl (by omega) (kM rfl rfl (i_nil (then_n ?_))))))))))))))))))))))))
   exact ⟨rfl, _, _, _, (show M + 1 - (k + 1) < M + 1 - k by omega), (lc 1 rfl (lc 2 rfl (lc 5 rfl (lc 6 rfl Less.nil)))), (.q (.cons _ (.q .slnil))), ⟨k + 1, some ⟨b6, 0, none⟩, n9 + 1, OPEN, [.row b6 3 true (ints (wgL l (k + 1)))], rfl, (by rw [<- wgL_app (by first | exact (if_neg (by omega)).symm | exact (if_pos (by omega)).symm)]; rfl), rfl, by omega, by omega, (.inr ⟨_, _, rfl, by omega, by rw [wgL_len]; omega, .inl ⟨rfl, rfl⟩, rfl⟩)⟩⟩
  ·refine i_nil (r_cond_f rfl (r_skip (then_n (rI (kM rfl rfl (kM rfl rfl (kO rfl (a_lit rfl rfl rfl (fun b7 => (kO rfl (a_appI (A1 := [_]) hU rfl rfl rfl (Src.own .here rfl (by simp)) (by decide) (by omega) (by omega) (fun b8 => (kM rfl rfl (i_nil (block_n (then_n (rI (kM rfl rfl (kO rfl (a_add rfl rfl (by omega) (kM rfl rfl (i_nil (then_n ?_)))))))))))))))))))))))
   exact ⟨rfl, _, _, _, (show M + 1 - (k + 1) < M + 1 - k by omega), (lc 1 rfl (lc 2 rfl (lc 5 rfl (lc 6 rfl Less.nil)))), (.q (.cons _ (.q .slnil))), ⟨k + 1, some ⟨b8, 0, none⟩, n9 + 1, OPEN, [.row b8 3 true (ints (wgL l (k + 1)))], rfl, (by rw [<- wgL_app (by first | exact (if_neg (by omega)).symm | exact (if_pos (by omega)).symm)]; rfl), rfl, by omega, by omega, (.inr ⟨_, _, rfl, by omega, by rw [wgL_len]; omega, .inl ⟨rfl, rfl⟩, rfl⟩)⟩⟩
 ·refine i_nil (r_cond_f rfl (r_exit (then_e (then_e (block_hit (then_n (rS (kM rfl rfl (kM rfl rfl (i_nil (r_ret ?_)))))))))))
  have hkM : k = M + 1 := by omega
  subst hkM
  rcases hU with ⟨_, q, _⟩ | ⟨b, op, rfl, h0, h2, h3, rfl⟩
  ·exfalso; omega
  ·exact end1A rfl (List.sublist_append_left _ _) ⟨b, op, cp, by rw [hn9], hn9 ▸ h3, rfl⟩
end
end Ev
end Go.Proofs.Ytoeklhdklcpllaa
namespace Go.Proofs.Ytoeklhdklcpllaa
open Go Go.RowKit
namespace Ev
theorem Spec.imp {P : Program} {C : Nat -> (CF -> Bool) -> Bool} {X : FuncId -> List Value -> St -> (Value -> St -> Bool) -> Bool} {n : Nat} {f : FuncId} {vs : List Value} {s : St} {Q Q' : Value -> List Ob -> Prop} (h : Spec P C X n f vs s Q) (hq : ∀ v A, Q v A -> Q' v A) : Spec P C X n f vs s Q' := h.mono (fun v s' q => by obtain ⟨A, h1, h2⟩ := q; exact ⟨A, h1, hq v A h2⟩)
theorem cap_tight {s : St} {b n c : Nat} {l : List Value} {op : Bool} (ht : Tight op n c) (h : Obj s b 3 op l) (hn : n <= l.length) : CapOk s (some ⟨b, 0, none⟩) n c := by
 rcases ht with ⟨rfl, rfl⟩ | ⟨rfl, rfl, h2⟩
 ·exact CapOk.own h hn
 ·exact .inl ⟨h2, Nat.le_refl _⟩
section
variable {X : FuncId -> List Value -> St -> (Value -> St -> Bool) -> Bool}
theorem Most_v (n : Nat) (M : Nat) (al : Option Addr) (cl : Nat) (ls : List (List Int)) (aw : Option Addr) (cw : Nat) (w : List Int) (s : St) (hs : Wf s) (hn : 7318349394477056 <= n) (hL : RowsE s 4 al ls) (hcl : al = none -> cl = 0) (hW : IntsE s aw w) (hCap : CapOk s aw (M + 1) cw) (hsys : sysE (M : Int) ls = 0) (hwl : w.length = M + 1) (hwo : WOk w w.length) : Spec Try.prog (tabK tabw) X (n + 10000) 10 [.agg ⟨[.int .i64 (M : Int), .slice al ls.length cl]⟩, .slice aw (M + 1) cw] s (fun v A => (Uns ls (M + 1) /\ v = .tuple #[.int .i64 0, .int .i64 23] /\ A = []) ∨ (¬ Uns ls (M + 1) /\ Opn ls (M + 1) (du0 w M) /\ v = .tuple #[.int .i64 0, .int .i64 22] /\ A = []) ∨ (¬ Uns ls (M + 1) /\ ∃ t p, Opt ls (M + 1) (du0 w M) t p /\ tot t ls.length <= 230400000000000 /\ (∀ v, v < M + 1 -> -1300000 <= p v /\ p v <= 30000000) /\ v = .tuple #[.int .i64 (tot (fun i => t i * lw ls i) ls.length), .int .i64 0] /\ A = [])) := by
 have h := Most_s n (M : Int) al cl ls aw cw w s hs hn hL hcl hW (by rw [hwl]; exact hCap) (X := X)
 rw [hwl] at h
 refine h.imp (fun v A q => ?_)
 rcases q with ⟨q, _⟩ | ⟨_, q, _⟩ | ⟨_, _, q1, q2⟩ | ⟨_, _, q1, q2, q3⟩ | ⟨_, _, q1, q2⟩
 ·exact absurd hsys q
 ·exact absurd ⟨by omega, by rw [<- hwl]; exact hwo⟩ q
 ·exact .inl ⟨q1, q2⟩
 ·exact .inr (.inl ⟨q1, q2, q3⟩)
 ·exact .inr (.inr ⟨q1, q2⟩)
end
end Ev
end Go.Proofs.Ytoeklhdklcpllaa
namespace Go.Proofs.Ytoeklhdklcpllaa
open Go Go.RowKit
namespace Ev
section
variable {X : FuncId -> List Value -> St -> (Value -> St -> Bool) -> Bool}
end
end Ev
end Go.Proofs.Ytoeklhdklcpllaa
namespace Go.Proofs.Ytoeklhdklcpllaa
open Go Go.RowKit
namespace Ev
theorem lm_app {M : Nat} {ls : List (List Int)} {y0 y1 y2 y3 : Int} (h : lmB (M : Int) ls = true) (hc : (0 <= (M : Int) /\ (M : Int) <= 64) /\ (0 <= y0 /\ y0 <= (M : Int)) /\ (0 <= y1 /\ y1 <= (M : Int)) /\ ¬ y0 = y1 /\ (-20000 <= y2 /\ y2 <= 20000) /\ (1 <= y3 /\ y3 <= 99999)) : lmB (M : Int) (ls ++ [[y0, y1, y2, y3]]) = true := by
 have key : ∀ k, k <= (ls ++ [[y0, y1, y2, y3]]).length -> lmB (M : Int) (ls ++ [[y0, y1, y2, y3]]) = lmB (M : Int) ((ls ++ [[y0, y1, y2, y3]]).drop k) := by
  intro k
  induction k with
  | zero => intro _; rfl
  | succ k ih =>
   intro hk
   have hk' : k < ls.length + 1 := by rw [List.length_append] at hk; exact hk
   have i1 := ih (by rw [List.length_append]; exact Nat.le_of_lt hk')
   by_cases q : k < ls.length
   ·obtain ⟨u0, u1, v2, v3, e, _⟩ := lm_row h q
    have hd := lmB_at h e
    have e2 : (ls ++ [[y0, y1, y2, y3]])[k]? = some [(u0 : Int), (u1 : Int), v2, v3] := by rw [List.getElem?_append_left q]; exact e
    exact lmB_good e2 i1 hd
   ·have e : k = ls.length := by omega
    have e2 : (ls ++ [[y0, y1, y2, y3]])[k]? = some [y0, y1, y2, y3] := by rw [e, List.getElem?_append_right (Nat.le_refl _), Nat.sub_self]; rfl
    exact lmB_good e2 i1 hc
 exact lmB_end (key _ (Nat.le_refl _)) (Nat.le_refl _)
theorem app_row {ls : List (List Int)} {y0 y1 y2 y3 : Int} : limC ls ++ [.int .i64 y0, .int .i64 y1, .int .i64 y2, .int .i64 y3] = limC (ls ++ [[y0, y1, y2, y3]]) := by
 rw [limC_app]
 congr 1
 exact limC_row.symm
def bt (k i : Nat) : Nat := k / 2 ^ i % 2
noncomputable def shrB (k i : Nat) : Bool := match evBin Try.prog .shr 3 0 (.int .i64 (k : Int)) (.int .i64 (i : Int)) with | some (.int .i64 (.ofNat r)) => Nat.beq r (k / 2 ^ i) | _ => false
noncomputable def andB (k : Nat) : Bool := match evBin Try.prog .and 3 0 (.int .i64 (k : Int)) (.int .i64 1) with | some (.int .i64 (.ofNat r)) => Nat.beq r (k % 2) | _ => false
noncomputable def shlB (i : Nat) : Bool := match evBin Try.prog .shl 3 0 (.int .i64 1) (.int .i64 ((i : Int) + 1)) with | some (.int .i64 (.ofNat r)) => Nat.beq r (2 ^ (i + 1)) | _ => false
set_option maxRecDepth 1000000 in
theorem shr_all : (List.range 128).all (fun k => (List.range 7).all (fun i => shrB k i)) = true := by kernel_rfl
set_option maxRecDepth 1000000 in
theorem and_all : (List.range 128).all andB = true := by kernel_rfl
set_option maxRecDepth 1000000 in
theorem shl_all : (List.range 7).all shlB = true := by kernel_rfl
theorem match_int {x : Option Value} {n : Nat} (h : (match x with | some (.int .i64 (.ofNat r)) => Nat.beq r n | _ => false) = true) : x = some (.int .i64 (n : Int)) := by
 split at h
 ·rw [Nat.eq_of_beq_eq_true h]; rfl
 ·cases h
theorem shr_t {k i : Nat} (hk : k < 128) (hi : i < 7) : evBin Try.prog .shr 3 0 (.int .i64 (k : Int)) (.int .i64 (i : Int)) = some (.int .i64 ((k / 2 ^ i : Nat) : Int)) := match_int (List.all_eq_true.1 (List.all_eq_true.1 shr_all k (List.mem_range.2 hk)) i (List.mem_range.2 hi))
theorem and_t {k : Nat} (hk : k < 128) : evBin Try.prog .and 3 0 (.int .i64 (k : Int)) (.int .i64 1) = some (.int .i64 ((k % 2 : Nat) : Int)) := match_int (List.all_eq_true.1 and_all k (List.mem_range.2 hk))
theorem shl_t {i : Nat} (hi : i < 7) : evBin Try.prog .shl 3 0 (.int .i64 1) (.int .i64 ((i : Int) + 1)) = some (.int .i64 ((2 ^ (i + 1) : Nat) : Int)) := match_int (List.all_eq_true.1 shl_all i (List.mem_range.2 hi))
theorem p2_le {i : Nat} (h : i <= 6) : 2 ^ (i + 1) <= 128 := Nat.le_trans (Nat.pow_le_pow_right (by decide) (show i + 1 <= 7 by omega)) (by decide)
theorem div_le128 {k i : Nat} (h : k < 128) : k / 2 ^ i < 128 := Nat.lt_of_le_of_lt (Nat.div_le_self _ _) h
theorem set_num (U : Nat -> Bool) : ∀ n, ∃ s, s < 2 ^ n /\ ∀ i, i < n -> bt s i = if U i = true then 1 else 0
 | 0 => ⟨0, by decide, fun i hi => absurd hi (Nat.not_lt_zero i)⟩
 | n + 1 => by
  obtain ⟨s, h1, h2⟩ := set_num U n
  have hp : 0 < 2 ^ n := Nat.pow_pos (by decide)
  refine ⟨s + 2 ^ n * (if U n = true then 1 else 0), ?_, fun i hi => ?_⟩
  ·rw [Nat.pow_succ]; split <;> omega
  ·unfold bt
   by_cases q : i = n
   ·subst q
    rw [Nat.add_mul_div_left _ _ hp, Nat.div_eq_of_lt h1]
    split <;> rfl
   ·have hi' : i < n := by omega
    have e : 2 ^ n * (if U n = true then 1 else 0) = 2 ^ i * (2 * (2 ^ (n - i - 1) * (if U n = true then 1 else 0))) := by
     rw [<- Nat.mul_assoc, <- Nat.mul_assoc, <- Nat.pow_succ, <- Nat.pow_add]
     congr 2; omega
    rw [e, Nat.add_mul_div_left _ _ (Nat.pow_pos (by decide)), Nat.add_mul_mod_self_left]
    exact h2 i hi'
def up1 (w : List Int) (k : Nat) : Nat -> Int
 | 0 => 0
 | i + 1 => up1 w k i + (if bt k i = 1 /\ 0 < i then w.getD i 0 else 0)
def up2 (w : List Int) (k : Nat) : Nat -> Int
 | 0 => 0
 | i + 1 => up2 w k i - (if bt k i = 0 /\ 0 < i then w.getD i 0 else 0)
theorem up1_bd {w : List Int} {k N : Nat} (hw : ∀ v, v < N -> -30 <= w.getD v 0 /\ w.getD v 0 <= 30) : ∀ {i : Nat}, i <= N -> -(30 * (i : Int)) <= up1 w k i /\ up1 w k i <= 30 * (i : Int)
 | 0, _ => ⟨by show -(30 * ((0 : Nat) : Int)) <= 0; omega, by show (0 : Int) <= 30 * ((0 : Nat) : Int); omega⟩
 | i + 1, hi => by
  have ih := up1_bd hw (k := k) (i := i) (by omega)
  have := hw i (by omega)
  show -(30 * ((i + 1 : Nat) : Int)) <= up1 w k i + (if bt k i = 1 /\ 0 < i then w.getD i 0 else 0) /\ up1 w k i + (if bt k i = 1 /\ 0 < i then w.getD i 0 else 0) <= _
  split <;> omega
theorem up2_bd {w : List Int} {k N : Nat} (hw : ∀ v, v < N -> -30 <= w.getD v 0 /\ w.getD v 0 <= 30) : ∀ {i : Nat}, i <= N -> -(30 * (i : Int)) <= up2 w k i /\ up2 w k i <= 30 * (i : Int)
 | 0, _ => ⟨by show -(30 * ((0 : Nat) : Int)) <= 0; omega, by show (0 : Int) <= 30 * ((0 : Nat) : Int); omega⟩
 | i + 1, hi => by
  have ih := up2_bd hw (k := k) (i := i) (by omega)
  have := hw i (by omega)
  show -(30 * ((i + 1 : Nat) : Int)) <= up2 w k i - (if bt k i = 0 /\ 0 < i then w.getD i 0 else 0) /\ up2 w k i - (if bt k i = 0 /\ 0 < i then w.getD i 0 else 0) <= _
  split <;> omega
def frB (ls : List (List Int)) (k : Nat) : Nat -> Bool
 | 0 => true
 | j + 1 => frB ls k j && (decide (bt k (lb ls j) = 0) || decide (bt k (la ls j) = 1))
theorem fr_t {ls : List (List Int)} {k j : Nat} (h : frB ls k j = true) (h2 : bt k (lb ls j) = 0 ∨ bt k (la ls j) = 1) : true = frB ls k (j + 1) := by
 show true = (frB ls k j && _)
 rw [h]
 rcases h2 with q | q
 ·rw [decide_eq_true q]; rfl
 ·rw [decide_eq_true q, Bool.or_true]; rfl
theorem fr_f {ls : List (List Int)} {k j : Nat} (h : frB ls k j = false) : false = frB ls k (j + 1) := by
 show false = (frB ls k j && _)
 rw [h]; rfl
theorem fr_n {ls : List (List Int)} {k j : Nat} (h1 : ¬ bt k (lb ls j) = 0) (h2 : ¬ bt k (la ls j) = 1) : false = frB ls k (j + 1) := by
 show false = (frB ls k j && _)
 rw [decide_eq_false h1, decide_eq_false h2, Bool.or_false, Bool.and_false]
theorem opn_set {ls : List (List Int)} {M : Nat} {w : List Int} (hl : lmB (M : Int) ls = true) (h : Opn ls (M + 1) (du0 w M)) : ∃ s, 1 <= s /\ s < 2 ^ (M + 1) /\ frB ls s ls.length = true /\ (bt s 0 = 1 -> 0 < up2 w s (M + 1)) /\ (¬ bt s 0 = 1 -> 0 < up1 w s (M + 1)) := by
 obtain ⟨U, h1, h2⟩ := h
 obtain ⟨s, s1, s2⟩ := set_num U (M + 1)
 have hN := hN_of hl
 have e1 : ¬ U 0 = true -> up1 w s (M + 1) = tot (fun v => ind U v * du0 w M v) (M + 1) := fun q => by
  have key : ∀ i, i <= M + 1 -> up1 w s i = tot (fun v => ind U v * du0 w M v) i := by
   intro i
   induction i with
   | zero => intro _; rfl
   | succ i ih =>
    intro hi
    show up1 w s i + (if bt s i = 1 /\ 0 < i then w.getD i 0 else 0) = tot _ i + ind U i * du0 w M i
    rw [ih (by omega), s2 i (by omega)]
    congr 1
    unfold ind
    by_cases c : U i = true
    ·rw [if_pos c, if_pos c, Int.one_mul]
     have hi0 : 0 < i := Nat.pos_of_ne_zero (fun e => q (e ▸ c))
     rw [if_pos ⟨rfl, hi0⟩]
     exact (updX_ne (x := fun v => w.getD v 0) (by omega)).symm
    ·rw [if_neg c, if_neg c, Int.zero_mul, if_neg (fun z => by cases z.1)]
  exact key _ (Nat.le_refl _)
 have e2 : U 0 = true -> up2 w s (M + 1) = tot (fun v => ind U v * du0 w M v) (M + 1) := fun q => by
  have key : ∀ i, i <= M + 1 -> up2 w s i = tot (fun v => ind U v * du0 w M v) i - tot (du0 w M) i := by
   intro i
   induction i with
   | zero => intro _; rfl
   | succ i ih =>
    intro hi
    show up2 w s i - (if bt s i = 0 /\ 0 < i then w.getD i 0 else 0) = tot _ i + ind U i * du0 w M i - (tot (du0 w M) i + du0 w M i)
    rw [ih (by omega), s2 i (by omega)]
    unfold ind
    by_cases c : U i = true
    ·rw [if_pos c, if_pos c, Int.one_mul, if_neg (fun z => by cases z.1)]; omega
    ·rw [if_neg c, if_neg c, Int.zero_mul]
     have hi0 : 0 < i := Nat.pos_of_ne_zero (fun e => c (e ▸ q))
     rw [if_pos ⟨rfl, hi0⟩, show du0 w M i = w.getD i 0 from updX_ne (x := fun v => w.getD v 0) (by omega)]; omega
  have := key _ (Nat.le_refl _)
  have d0 := du_tot (w := w) (M := M)
  omega
 have b0 := s2 0 (by omega)
 have hs1 : 1 <= s := by
  refine Nat.pos_of_ne_zero (fun e => ?_)
  subst e
  have : ∀ v, v < M + 1 -> ind U v * du0 w M v = 0 := fun v hv => by
   have := s2 v hv
   unfold bt at this
   rw [Nat.zero_div] at this
   unfold ind
   split
   ·rename_i c; rw [if_pos c] at this; cases this
   ·rw [Int.zero_mul]
  rw [tot_nil this] at h2
  omega
 refine ⟨s, hs1, s1, ?_, fun q => ?_, fun q => ?_⟩
 ·have key : ∀ j, j <= ls.length -> frB ls s j = true := by
   intro j
   induction j with
   | zero => intro _; rfl
   | succ j ih =>
    intro hj
    obtain ⟨k1, k2⟩ := hN j (by omega)
    refine (fr_t (ih (by omega)) ?_).symm
    rw [s2 _ k1, s2 _ k2]
    by_cases c : U (lb ls j) = true
    ·right; rw [if_pos (h1 j (by omega) c)]
    ·left; rw [if_neg c]
  exact key _ (Nat.le_refl _)
 ·rw [b0] at q
  have c : U 0 = true := by
   refine Classical.byContradiction (fun c => ?_)
   rw [if_neg c] at q; cases q
  rw [e2 c]; exact h2
 ·rw [b0] at q
  have c : ¬ U 0 = true := fun c => q (if_pos c)
  rw [e1 c]; exact h2
theorem opn_less {ls us : List (List Int)} {N : Nat} {w : Nat -> Int} (h : Opn (ls ++ us) N w) : Opn ls N w := by
 obtain ⟨U, h1, h2⟩ := h
 refine ⟨U, fun i hi q => ?_, h2⟩
 obtain ⟨e1, e2, _⟩ := app_fld (us := us) hi
 have := h1 i (by rw [List.length_append]; omega)
 rw [e1, e2] at this
 exact this q
theorem rows_lit {s : St} {b e : Nat} {op : Bool} {w0 w1 w2 w3 : Int} (h : Obj s b e op [.int .i64 w0, .int .i64 w1, .int .i64 w2, .int .i64 w3]) (hf : I64 w0 /\ I64 w1 /\ I64 w2 /\ I64 w3) : RowsE s 4 (some ⟨b, 0, none⟩) [[w0, w1, w2, w3]] := by
 have f0 := hf.1.lo; have g0 := hf.1.hi; have f1 := hf.2.1.lo; have g1 := hf.2.1.hi; have f2 := hf.2.2.1.lo; have g2 := hf.2.2.1.hi; have f3 := hf.2.2.2.lo; have g3 := hf.2.2.2.hi
 refine ⟨fun c hc => (by cases hc; rfl), fun _ => ⟨b, 0, rfl⟩, fun c o hc i r hr => ?_, fun r hr => ?_, fun r hr x hx => ?_, (by simp)⟩
 ·cases hc
  match i, hr with
  | 0, hr =>
   cases hr
   exact h.ats (fun j hj => by rw [show 0 + 0 * 4 + j = j by omega]; rfl)
  | i + 1, hr => cases hr
 ·rw [List.mem_singleton.1 hr]; rfl
 ·rw [List.mem_singleton.1 hr] at hx
  simp only [List.mem_cons, List.not_mem_nil, or_false] at hx
  omega
theorem rows_nil {s : St} {a : Option Addr} (h : ∀ b, a = some b -> b.spot = none) : RowsE s 4 a [] := ⟨h, fun e => absurd rfl e, fun b o hb i r hr => (by simp at hr), fun r hr => (by cases hr), fun r hr => (by cases hr), (by simp)⟩
section
variable {X : FuncId -> List Value -> St -> (Value -> St -> Bool) -> Bool}
theorem With_n (n : Nat) (M : Nat) (al : Option Addr) (cl : Nat) (ls : List (List Int)) (y0 y1 y2 y3 : Int) (s : St) (hs : Wf s) (hn : 844424930131968 <= n) (hL : RowsE s 4 al ls) (hne : ls ≠ []) (hM : M <= 64) (h399 : ls.length < 400) (hsys : sysE (M : Int) ls = 0) (hc : (0 <= (M : Int) /\ (M : Int) <= 64) /\ (0 <= y0 /\ y0 <= (M : Int)) /\ (0 <= y1 /\ y1 <= (M : Int)) /\ ¬ y0 = y1 /\ (-20000 <= y2 /\ y2 <= 20000) /\ (1 <= y3 /\ y3 <= 99999)) : Spec Try.prog (tabK tabw) X (n + 800) 11 [.agg ⟨[.int .i64 (M : Int), .slice al ls.length cl]⟩, .agg ⟨[.int .i64 y0, .int .i64 y1, .int .i64 y2, .int .i64 y3]⟩] s (fun v A => ∃ a2 c2 TL, v = .tuple #[.agg ⟨[.int .i64 (M : Int), .slice a2 (ls.length + 1) c2]⟩, .int .i64 0] /\ A = TL /\ TlR 38 a2 (ls.length + 1) c2 (ls ++ [[y0, y1, y2, y3]]) TL) := by
 refine enter bw11_at rfl hs ?_
 unfold bw11
 have hlen := hL.len
 refine rS (kO rfl (a_box rfl rfl rfl (fun b1 => (kO rfl (a_box rfl rfl rfl (fun b2 => (kO rfl (a_new rfl rfl (fun b3 => (kM rfl rfl (i_nil (rQ (rS (kO rfl (a_lda rfl (by decide) (.next (.next .here)) rfl (kO rfl (a_callV rfl rfl (fun s1 h1 => Check_s _ (M : Int) al cl ls s1 h1.wf (by omega) (hL.ext hs h1.2.1)) (kM rfl rfl (i_nil (rS (kM rfl rfl (kO rfl (a_neq rfl rfl (fun h4 => ?_) (fun h4 => ?_))))))))))))))))))))))))
 ·exfalso; omega
 ·refine i_nil (r_cond_f rfl (r_skip (then_n (rQ (rS (kO rfl (a_fa rfl (kO rfl (a_ld rfl (.next (.next .here)) rfl (kO rfl (a_lda rfl (by decide) (.next .here) rfl (kO rfl (a_callE rfl rfl (fun s1 h1 => CheckLimit_s _ _ _ _ _ _ s1 h1.wf) (fun h5 => ?_) (fun h5 => ?_))))))))))))))
  ·refine kM rfl rfl (i_nil (rS (kM rfl rfl (kO rfl (a_neq rfl rfl (fun h => absurd h (by decide)) (fun _ => (i_nil (r_cond_f rfl (r_skip (then_n (rQ (rS (kO rfl (a_fa rfl (kO rfl (a_ld rfl (.next (.next .here)) rfl (kO rfl (a_lenx rfl hL.spot (kO rfl (a_eql rfl rfl (fun h7 => ?_) (fun h7 => ?_)))))))))))))))))))))
   ·exfalso; omega
   ·refine i_nil (r_cond_f rfl (r_skip (then_n (rS (kO rfl (a_fa rfl (kO rfl (a_ld rfl (.next (.next .here)) rfl (kO rfl (a_lda rfl (by decide) (.next .here) rfl (kO rfl (a_lit rfl rfl rfl (fun b8 => (kO rfl (a_call rfl rfl (fun s1 h1 => CloneL_n _ al cl ls s1 h1.wf (hL.ext hs h1.2.1) hne (by omega)) (fun v1 A1 q1 => ?_))))))))))))))))
    obtain ⟨bk9, rfl, rfl⟩ := q1
    rw [List.singleton_append]
    refine kZ rfl (a_againa rfl rfl (by decide) (.next (.next (.next .here))) rfl (by simp [eqL, eqV, eqA, kindEq, intEq_eq, eqV_sl hL.spot]) (kO rfl (a_app rfl rfl (Src.own (.next .here) rfl (by simp)) .here (by rw [limC_len]) (.inl ⟨rfl, rfl⟩) (by decide) (by omega) (by omega) (fun b10 => (kM rfl rfl (i_nil (rS (kO rfl (a_fa rfl (kO rfl (a_ld rfl (.next (.next (.next (.next .here)))) rfl (kM rfl rfl (kO rfl (a_build rfl rfl (kZ rfl (a_sta rfl rfl (.next (.next .here)) rfl rfl rfl rfl (kM rfl rfl (i_nil (r_ret ?_)))))))))))))))))))
    exact endc2A rfl (by decide) (.q (.cons _ (.cons _ (.cons _ (.cons _ .slnil))))) (.next (.next .here)) rfl rfl ⟨_, _, _, rfl, rfl, .inr ⟨_, _, rfl, by omega, by simp, .inl ⟨rfl, rfl⟩, by show [Ob.row _ _ true (limC ls ++ [.int .i64 y0, .int .i64 y1, .int .i64 y2, .int .i64 y3])] = _; rw [app_row]⟩⟩
  ·exact absurd (by omega) h5
theorem With_e (n : Nat) (M : Nat) (al : Option Addr) (cl : Nat) (y0 y1 y2 y3 : Int) (s : St) (hs : Wf s) (hn : 844424930131968 <= n) (hsp : ∀ b, al = some b -> b.spot = none) (hcl : al = none -> cl = 0) (hM : M <= 64) (hsys : sysE (M : Int) [] = 0) (hc : (0 <= (M : Int) /\ (M : Int) <= 64) /\ (0 <= y0 /\ y0 <= (M : Int)) /\ (0 <= y1 /\ y1 <= (M : Int)) /\ ¬ y0 = y1 /\ (-20000 <= y2 /\ y2 <= 20000) /\ (1 <= y3 /\ y3 <= 99999)) : Spec Try.prog (tabK tabw) X (n + 800) 11 [.agg ⟨[.int .i64 (M : Int), .slice al 0 cl]⟩, .agg ⟨[.int .i64 y0, .int .i64 y1, .int .i64 y2, .int .i64 y3]⟩] s (fun v A => ∃ a2 c2 TL, v = .tuple #[.agg ⟨[.int .i64 (M : Int), .slice a2 (1) c2]⟩, .int .i64 0] /\ A = TL /\ TlR 38 a2 (1) c2 ([[y0, y1, y2, y3]]) TL) := by
 refine enter bw11_at rfl hs ?_
 unfold bw11
 refine rS (kO rfl (a_box rfl rfl rfl (fun b1 => (kO rfl (a_box rfl rfl rfl (fun b2 => (kO rfl (a_new rfl rfl (fun b3 => (kM rfl rfl (i_nil (rQ (rS (kO rfl (a_lda rfl (by decide) (.next (.next .here)) rfl (kO rfl (a_callV rfl rfl (fun s1 h1 => Check_s _ (M : Int) al cl [] s1 h1.wf (by omega) (rows_nil hsp)) (kM rfl rfl (i_nil (rS (kM rfl rfl (kO rfl (a_neq rfl rfl (fun h4 => ?_) (fun h4 => ?_))))))))))))))))))))))))
 ·exfalso; omega
 ·refine i_nil (r_cond_f rfl (r_skip (then_n (rQ (rS (kO rfl (a_fa rfl (kO rfl (a_ld rfl (.next (.next .here)) rfl (kO rfl (a_lda rfl (by decide) (.next .here) rfl (kO rfl (a_callE rfl rfl (fun s1 h1 => CheckLimit_s _ _ _ _ _ _ s1 h1.wf) (fun h5 => ?_) (fun h5 => ?_))))))))))))))
  ·refine kM rfl rfl (i_nil (rS (kM rfl rfl (kO rfl (a_neq rfl rfl (fun h => absurd h (by decide)) (fun _ => (i_nil (r_cond_f rfl (r_skip (then_n (rQ (rS (kO rfl (a_fa rfl (kO rfl (a_ld rfl (.next (.next .here)) rfl (kO rfl (a_lenx rfl hsp (kO rfl (a_eql rfl rfl (fun h7 => ?_) (fun h7 => ?_)))))))))))))))))))))
   ·exfalso; omega
   ·refine i_nil (r_cond_f rfl (r_skip (then_n (rS (kO rfl (a_fa rfl (kO rfl (a_ld rfl (.next (.next .here)) rfl (kO rfl (a_lda rfl (by decide) (.next .here) rfl (kO rfl (a_lit rfl rfl rfl (fun b8 => (kO rfl (a_call rfl rfl (fun s1 h1 => CloneL_e _ al cl s1 h1.wf hsp hcl) (fun v1 A1 q1 => ?_))))))))))))))))
    rcases q1 with ⟨rfl, rfl⟩ | q1
    ·refine kZ rfl (a_againa rfl rfl (by decide) (.next (.next .here)) rfl (by simp [eqL, eqV, eqA, kindEq, intEq_eq, eqV_sl hsp]) (kO rfl (a_appn rfl rfl (Src.own .here rfl (by simp)) (by decide) (by omega) (by omega) (fun b10 => (kM rfl rfl (i_nil (rS (kO rfl (a_fa rfl (kO rfl (a_ld rfl (.next (.next (.next (.next .here)))) rfl (kM rfl rfl (kO rfl (a_build rfl rfl (kZ rfl (a_sta rfl rfl (.next (.next .here)) rfl rfl rfl rfl (kM rfl rfl (i_nil (r_ret ?_)))))))))))))))))))
     exact endc2A rfl (by decide) (.q (.cons _ (.cons _ (.cons _ (.cons _ .slnil))))) (.next (.next .here)) rfl rfl ⟨_, _, _, rfl, rfl, .inr ⟨_, _, rfl, by omega, by simp, .inl ⟨rfl, rfl⟩, by show [Ob.row _ _ true ([.int .i64 y0, .int .i64 y1, .int .i64 y2, .int .i64 y3])] = _; rw [<- limC_row]⟩⟩
    ·obtain ⟨bk9, rfl, rfl⟩ := q1
     refine kZ rfl (a_againa rfl rfl (by decide) (.next (.next (.next .here))) rfl (by simp [eqL, eqV, eqA, kindEq, intEq_eq, eqV_sl hsp]) (kO rfl (a_app rfl rfl (Src.own (.next .here) rfl (by simp)) .here (by simp) (by first | exact .inl ⟨rfl, rfl⟩ | exact .inr ⟨rfl, rfl, by decide⟩) (by decide) (by omega) (by omega) (fun b11 => (kM rfl rfl (i_nil (rS (kO rfl (a_fa rfl (kO rfl (a_ld rfl (.next (.next (.next (.next .here)))) rfl (kM rfl rfl (kO rfl (a_build rfl rfl (kZ rfl (a_sta rfl rfl (.next (.next .here)) rfl rfl rfl rfl (kM rfl rfl (i_nil (r_ret ?_)))))))))))))))))))
     exact endc2A rfl (by decide) (.q (.cons _ (.cons _ (.cons _ (.cons _ .slnil))))) (.next (.next .here)) rfl rfl ⟨_, _, _, rfl, rfl, .inr ⟨_, _, rfl, by omega, by simp, .inl ⟨rfl, rfl⟩, by show [Ob.row _ _ true ([.int .i64 y0, .int .i64 y1, .int .i64 y2, .int .i64 y3])] = _; rw [<- limC_row]⟩⟩
  ·exact absurd (by omega) h5
end
end Ev
end Go.Proofs.Ytoeklhdklcpllaa
