import Derived.Test.YtoeklhdklcpllaaZc13
set_option linter.unusedVariables false
set_option linter.unusedSimpArgs false
namespace Go.Proofs.Ytoeklhdklcpllaa
open Go Go.RowKit
namespace Ev
theorem slc_sl1T {row : Nat -> Option (Nat × Nat × Bool)} {b n k h : Nat} (hr : row b = some (k, 3, true)) (hk : h * 1 <= k) : evSlc row 3 1 (.slice (some ⟨b, 0, none⟩) n OPEN) none (some (.int .i64 (h : Int))) none = some (.slice (some ⟨b, 0, none⟩) h OPEN) := by
 show (match row b with
  | some (k, e', op) => sel (op && Nat.beq 3 e' && Nat.beq 0 ((OPEN - OPEN) * 1) && !Nat.beq 1 0 && (Nat.beq OPEN OPEN || !Nat.beq n 0)) (evSlcOpen b 1 0 h k (OPEN - OPEN) none) none
  | none => none) = _
 rw [hr];show sel (Nat.ble 0 h && Nat.ble ((0 + h) * 1) k) (some (Value.slice (some ⟨b, (0 + 0) * 1, none⟩) (h - 0) (OPEN + (0 + 0)))) none = _;rw [show Nat.ble 0 h = true from by rw [Nat.ble_eq]; omega, show Nat.ble ((0 + h) * 1) k = true from by rw [Nat.ble_eq]; omega]; rfl
theorem a_sl1T {P : Program} {C : Nat -> (CF -> Bool) -> Bool} {X : FuncId -> List Value -> St -> (Value -> St -> Bool) -> Bool} {s0 : St} {n nt : Nat} {env : List (Nat × Value)} {A : List Ob} {R : Value -> List Ob -> Prop} {x hi : Ev.X} {b m h : Nat} {l9 : List Value} (hx : xv env x = some (.slice (some ⟨b, 0, none⟩) m OPEN)) (h_hi : xv env hi = some (.int .i64 (h : Int))) (ho : Own A b 3 true l9) (hk : h * 1 <= l9.length)
 (hR : R (.slice (some ⟨b, 0, none⟩) h OPEN) A) : OpA P C X s0 n nt (.slc 3 1 x none (some hi) none) env A R := .mk fun s hs T hT q hq => by
 refine Y6 hT (k := fun x => valOK T (some hi) (fun o_hi => slcK s 3 1 x none o_hi none (vK s q))) hx ?_;refine Y6 hT (k := fun v => slcK s 3 1 _ none (some v) none (vK s q)) h_hi ?_;unfold slcK;obtain ⟨c, h3, _⟩ := hs.own ho;have hrow : rowOf s b = some (l9.length, 3, true) := by
  unfold rowOf;rw [h3]
 have key := slc_sl1T (n := m) hrow hk;rw [key];show forceV (Value.slice (some ⟨b, 0, none⟩) h OPEN) (vK s q) = true;rw [forceV_eq];exact hq _ _ ⟨A, hs, hR⟩
theorem slc_sl1F {row : Nat -> Option (Nat × Nat × Bool)} {b n k l : Nat} (hr : row b = some (k, 3, true)) (hl : l <= n) (hk : n * 1 <= k) : evSlc row 3 1 (.slice (some ⟨b, 0, none⟩) n OPEN) (some (.int .i64 (l : Int))) none none = some (.slice (some ⟨b, (0 + l) * 1, none⟩) (n - l) (OPEN + (0 + l))) := by
 show (match row b with
  | some (k, e', op) => sel (op && Nat.beq 3 e' && Nat.beq 0 ((OPEN - OPEN) * 1) && !Nat.beq 1 0 && (Nat.beq OPEN OPEN || !Nat.beq n 0)) (evSlcOpen b 1 l n k (OPEN - OPEN) none) none
  | none => none) = _
 rw [hr];show sel (Nat.ble l n && Nat.ble ((0 + n) * 1) k) (some (Value.slice (some ⟨b, (0 + l) * 1, none⟩) (n - l) (OPEN + (0 + l)))) none = _;rw [show Nat.ble l n = true from by rw [Nat.ble_eq]; omega, show Nat.ble ((0 + n) * 1) k = true from by rw [Nat.ble_eq]; omega]; rfl
theorem a_sl1F {P : Program} {C : Nat -> (CF -> Bool) -> Bool} {X : FuncId -> List Value -> St -> (Value -> St -> Bool) -> Bool} {s0 : St} {n nt : Nat} {env : List (Nat × Value)} {A : List Ob} {R : Value -> List Ob -> Prop} {x lo : Ev.X} {b m l : Nat} {l9 : List Value} (hx : xv env x = some (.slice (some ⟨b, 0, none⟩) m OPEN)) (h_lo : xv env lo = some (.int .i64 (l : Int))) (ho : Own A b 3 true l9) (hl : l <= m) (hk : m * 1 <= l9.length)
 (hR : R (.slice (some ⟨b, (0 + l) * 1, none⟩) (m - l) (OPEN + (0 + l))) A) : OpA P C X s0 n nt (.slc 3 1 x (some lo) none none) env A R := .mk fun s hs T hT q hq => by
 refine Y6 hT (k := fun x => valOK T (some lo) (fun o_lo => slcK s 3 1 x o_lo none none (vK s q))) hx ?_;refine Y6 hT (k := fun v => slcK s 3 1 _ (some v) none none (vK s q)) h_lo ?_;unfold slcK;obtain ⟨c, h3, _⟩ := hs.own ho;have hrow : rowOf s b = some (l9.length, 3, true) := by
  unfold rowOf;rw [h3]
 have key := slc_sl1F (n := m) hrow hl hk;rw [key];show forceV (Value.slice (some ⟨b, (0 + l) * 1, none⟩) (m - l) (OPEN + (0 + l))) (vK s q) = true;rw [forceV_eq];exact hq _ _ ⟨A, hs, hR⟩
theorem slc_sl1B {row : Nat -> Option (Nat × Nat × Bool)} {b n k l h : Nat} (hr : row b = some (k, 3, true)) (hl : l <= h) (hk : h * 1 <= k) : evSlc row 3 1 (.slice (some ⟨b, 0, none⟩) n OPEN) (some (.int .i64 (l : Int))) (some (.int .i64 (h : Int))) none = some (.slice (some ⟨b, (0 + l) * 1, none⟩) (h - l) (OPEN + (0 + l))) := by
 show (match row b with
  | some (k, e', op) => sel (op && Nat.beq 3 e' && Nat.beq 0 ((OPEN - OPEN) * 1) && !Nat.beq 1 0 && (Nat.beq OPEN OPEN || !Nat.beq n 0)) (evSlcOpen b 1 l h k (OPEN - OPEN) none) none
  | none => none) = _
 rw [hr];show sel (Nat.ble l h && Nat.ble ((0 + h) * 1) k) (some (Value.slice (some ⟨b, (0 + l) * 1, none⟩) (h - l) (OPEN + (0 + l)))) none = _;rw [show Nat.ble l h = true from by rw [Nat.ble_eq]; omega, show Nat.ble ((0 + h) * 1) k = true from by rw [Nat.ble_eq]; omega]; rfl
theorem a_sl1B {P : Program} {C : Nat -> (CF -> Bool) -> Bool} {X : FuncId -> List Value -> St -> (Value -> St -> Bool) -> Bool} {s0 : St} {n nt : Nat} {env : List (Nat × Value)} {A : List Ob} {R : Value -> List Ob -> Prop} {x lo hi : Ev.X} {b m l h : Nat} {l9 : List Value} (hx : xv env x = some (.slice (some ⟨b, 0, none⟩) m OPEN)) (h_lo : xv env lo = some (.int .i64 (l : Int))) (h_hi : xv env hi = some (.int .i64 (h : Int))) (ho : Own A b 3 true l9) (hl : l <= h) (hk : h * 1 <= l9.length)
 (hR : R (.slice (some ⟨b, (0 + l) * 1, none⟩) (h - l) (OPEN + (0 + l))) A) : OpA P C X s0 n nt (.slc 3 1 x (some lo) (some hi) none) env A R := .mk fun s hs T hT q hq => by
 refine Y6 hT (k := fun x => valOK T (some lo) (fun o_lo => valOK T (some hi) (fun o_hi => slcK s 3 1 x o_lo o_hi none (vK s q)))) hx ?_;refine Y6 hT (k := fun v => valOK T (some hi) (fun o_hi => slcK s 3 1 _ (some v) o_hi none (vK s q))) h_lo ?_;refine Y6 hT (k := fun v => slcK s 3 1 _ (some (.int .i64 (l : Int))) (some v) none (vK s q)) h_hi ?_;unfold slcK;obtain ⟨c, h3, _⟩ := hs.own ho;have hrow : rowOf s b = some (l9.length, 3, true) := by
  unfold rowOf;rw [h3]
 have key := slc_sl1B (n := m) hrow hl hk;rw [key];show forceV (Value.slice (some ⟨b, (0 + l) * 1, none⟩) (h - l) (OPEN + (0 + l))) (vK s q) = true;rw [forceV_eq];exact hq _ _ ⟨A, hs, hR⟩
theorem slc_sl1M {row : Nat -> Option (Nat × Nat × Bool)} {b n k l h u : Nat} (hr : row b = some (k, 3, true)) (hl : l <= h) (hu : h <= u) (hlu : l < u) (hO : u < OPEN) (hk : u * 1 <= k) : evSlc row 3 1 (.slice (some ⟨b, 0, none⟩) n OPEN) (some (.int .i64 (l : Int))) (some (.int .i64 (h : Int))) (some (.int .i64 (u : Int))) = some (.slice (some ⟨b, (0 + l) * 1, none⟩) (h - l) (u - l)) := by
 show (match row b with
  | some (k, e', op) => sel (op && Nat.beq 3 e' && Nat.beq 0 ((OPEN - OPEN) * 1) && !Nat.beq 1 0 && (Nat.beq OPEN OPEN || !Nat.beq n 0)) (evSlcOpen b 1 l h k (OPEN - OPEN) (some u)) none
  | none => none) = _
 rw [hr];show sel (Nat.ble l h && Nat.ble h u && Nat.blt u OPEN && Nat.ble ((0 + u) * 1) k) (some (Value.slice (some ⟨b, sel (Nat.beq u l) (0 * 1) ((0 + l) * 1), none⟩) (h - l) (u - l))) none = _;rw [show Nat.ble l h = true from by rw [Nat.ble_eq]; omega, show Nat.ble h u = true from by rw [Nat.ble_eq]; omega, show Nat.blt u OPEN = true from by rw [Nat.blt_eq]; exact hO, show Nat.ble ((0 + u) * 1) k = true from by rw [Nat.ble_eq]; omega, beqF (show u ≠ l by omega)]; rfl
theorem a_sl1M {P : Program} {C : Nat -> (CF -> Bool) -> Bool} {X : FuncId -> List Value -> St -> (Value -> St -> Bool) -> Bool} {s0 : St} {n nt : Nat} {env : List (Nat × Value)} {A : List Ob} {R : Value -> List Ob -> Prop} {x lo hi mx : Ev.X} {b m l h u : Nat} {l9 : List Value} (hx : xv env x = some (.slice (some ⟨b, 0, none⟩) m OPEN)) (h_lo : xv env lo = some (.int .i64 (l : Int))) (h_hi : xv env hi = some (.int .i64 (h : Int))) (h_mx : xv env mx = some (.int .i64 (u : Int))) (ho : Own A b 3 true l9) (hl : l <= h) (hu : h <= u) (hlu : l < u) (hO : u < OPEN) (hk : u * 1 <= l9.length)
 (hR : R (.slice (some ⟨b, (0 + l) * 1, none⟩) (h - l) (u - l)) A) : OpA P C X s0 n nt (.slc 3 1 x (some lo) (some hi) (some mx)) env A R := .mk fun s hs T hT q hq => by
 refine Y6 hT (k := fun x => valOK T (some lo) (fun o_lo => valOK T (some hi) (fun o_hi => valOK T (some mx) (fun o_mx => slcK s 3 1 x o_lo o_hi o_mx (vK s q))))) hx ?_;refine Y6 hT (k := fun v => valOK T (some hi) (fun o_hi => valOK T (some mx) (fun o_mx => slcK s 3 1 _ (some v) o_hi o_mx (vK s q)))) h_lo ?_;refine Y6 hT (k := fun v => valOK T (some mx) (fun o_mx => slcK s 3 1 _ (some (.int .i64 (l : Int))) (some v) o_mx (vK s q))) h_hi ?_;refine Y6 hT (k := fun v => slcK s 3 1 _ (some (.int .i64 (l : Int))) (some (.int .i64 (h : Int))) (some v) (vK s q)) h_mx ?_;unfold slcK;obtain ⟨c, h3, _⟩ := hs.own ho;have hrow : rowOf s b = some (l9.length, 3, true) := by
  unfold rowOf;rw [h3]
 have key := slc_sl1M (n := m) hrow hl hu hlu hO hk;rw [key];show forceV (Value.slice (some ⟨b, (0 + l) * 1, none⟩) (h - l) (u - l)) (vK s q) = true;rw [forceV_eq];exact hq _ _ ⟨A, hs, hR⟩
theorem IntsE.ownP {s : St} {b e : Nat} {op : Bool} {l : List Int} {z : List Value} (h : Obj s b e op (ints l ++ z)) (hf : ∀ x ∈ l, -9223372036854775808 <= x /\ x < 9223372036854775808) (hl : l.length < 140737488355328) : IntsE s (some ⟨b, 0, none⟩) l :=
 ⟨fun c hc => by cases hc; rfl, fun _ => ⟨b, 0, rfl⟩, fun c o hc => by
  cases hc;exact h.ats (fun j hj => by rw [Nat.zero_add, List.getElem?_append_left hj]), hf, hl⟩
def de (l : List Int) (i : Nat) : List Int := l.take i ++ l.drop (i + 1)
theorem de_len {l : List Int} {i : Nat} (h : i < l.length) : (de l i).length + 1 = l.length := by
 unfold de;rw [List.length_append, List.length_take, List.length_drop]; omega
theorem ints_take {l : List Int} {k : Nat} : (ints l).take k = ints (l.take k) := by unfold ints; rw [List.map_take]
theorem ints_drop {l : List Int} {k : Nat} : (ints l).drop k = ints (l.drop k) := by unfold ints; rw [List.map_drop]
theorem ints_app {a b : List Int} : ints (a ++ b) = ints a ++ ints b := by unfold ints; rw [List.map_append]
theorem de_over {l : List Int} {k : Nat} (hk : k < l.length) : over (ints l) (k * 1) (ints (l.drop (k + 1))) = ints (de l k) ++ (ints l).drop (l.length - 1) := by
 unfold over;rw [Nat.mul_one, ints_take, ints_len, List.length_drop, show k + (l.length - (k + 1)) = l.length - 1 by omega, <- ints_app]; rfl
theorem a_appD1 {P : Program} {C : Nat -> (CF -> Bool) -> Bool} {X : FuncId -> List Value -> St -> (Value -> St -> Bool) -> Bool} {s0 : St} {n nt b : Nat} {env : List (Nat × Value)} {A : List Ob} {R : Value -> List Ob -> Prop} {e k c9 : Nat} {z : List Value} {w : List Int} {x y : Ev.X} {A' : List Ob} (hk : k < w.length) (h4 : w.length <= 400) (hx : xv env x = some (.slice (some ⟨b, 0, none⟩) k OPEN)) (hy : xv env y = some (.slice (some ⟨b, (0 + (k + 1)) * 1, none⟩) (w.length - (k + 1)) c9)) (hu : Upd A b e true (ints w) (ints (de w k) ++ (ints w).drop (w.length - 1)) A')
 (h : R (.slice (some ⟨b, 0, none⟩) (w.length - 1) OPEN) A') : OpA P C X s0 n nt (.app e 1 8 z false x y) env A R := by
 by_cases q : k + 1 = w.length
 ·have e1 : w.length - (k + 1) = 0 := by omega
  have e3 : w.length - 1 = k := by omega
  have e2 : ints (de w k) ++ (ints w).drop (w.length - 1) = ints w := by
   rw [e3, show de w k = w.take k from by unfold de; rw [q, List.drop_length, List.append_nil], <- ints_take, List.take_append_drop]
  rw [e1] at hy;rw [e2] at hu;rw [e3] at h;exact a_appO0 J hx hy hu (by rw [ints_len]; omega) (by omega) (by omega) h
 ·have hd : (ints (w.drop (k + 1))).length = (w.length - (k + 1)) * 1 := by rw [ints_len, List.length_drop, Nat.mul_one]
  refine a_appO J hx hy (more := ints (w.drop (k + 1))) ⟨b, _, _, rfl, hd, fun q9 => ?_, .inl ⟨_, _, _, hu.own, ?_⟩⟩ (by rw [de_over hk]; exact hu) (by rw [ints_len]; omega) (by omega) (by omega) ?_
  ·rw [q9] at hd
   have : 0 = (w.length - (k + 1)) * 1 := hd;omega
  ·rw [seg_some (by rw [hd, ints_len]; omega) (by rw [hd, ints_len]; omega), hd, Nat.mul_one, Nat.mul_one, Nat.zero_add, ints_drop, <- List.length_drop, <- ints_len, List.take_length]
  ·rw [show k + (w.length - (k + 1)) = w.length - 1 by omega]; exact h
theorem a_clrD1 {P : Program} {C : Nat -> (CF -> Bool) -> Bool} {X : FuncId -> List Value -> St -> (Value -> St -> Bool) -> Bool} {s0 : St} {n nt b : Nat} {env : List (Nat × Value)} {A : List Ob} {R : Value -> List Ob -> Prop} {e cap m : Nat} {op : Bool} {w2 : List Int} {d z : List Value} {x : Ev.X} {A' : List Ob} (hm : m = w2.length + 1) (hd : d.length = 1) (hz : z.length = 1) (hx : xv env x = some (.slice (some ⟨b, (0 + w2.length) * 1, none⟩) (m - w2.length) cap)) (hu : Upd A b e op (ints w2 ++ d) (ints w2 ++ z) A')
 (h : R (.tuple #[]) A') : OpA P C X s0 n nt (.clear 1 z x) env A R := by
 subst hm;rw [Nat.zero_add, Nat.add_sub_cancel_left, Nat.mul_one] at hx;have e1 : repeatN z 1 = z := List.append_nil z;refine a_clr (e := e) (op := op) hx (by decide) (l := ints w2 ++ d) ?_ (by rw [e1, hz]) (by rw [List.length_append, ints_len, hd]; omega) h;have e2 : over (ints w2 ++ d) w2.length (repeatN z 1) = ints w2 ++ z := by
  rw [e1];unfold over;rw [List.take_left' ints_len, List.drop_eq_nil_of_le (by rw [List.length_append, ints_len, hd, hz]; omega), List.append_nil]
 rw [e2]; exact hu
def IlC (TT : Nat) (a : Option Addr) (n c : Nat) (l : List Int) (U : List Ob) : Prop := (a = none /\ n = 0 /\ c = 0 /\ l = [] /\ U = []) ∨ ∃ b op, a = some ⟨b, 0, none⟩ /\ l.length = n /\ ((c = OPEN /\ op = true) ∨ (c < OPEN /\ n <= c)) /\ U = [.row b TT op (ints l)]
def IlD (TT : Nat) (a : Option Addr) (n c : Nat) (l : List Int) (U : List Ob) : Prop := (a = none /\ n = 0 /\ c = 0 /\ l = [] /\ U = []) ∨ ∃ b op z, a = some ⟨b, 0, none⟩ /\ l.length = n /\ ((c = OPEN /\ op = true) ∨ (c < OPEN /\ n <= c)) /\ U = [.row b TT op (ints l ++ z)]
theorem IlD.rows {TT : Nat} {s0 s : St} {a : Option Addr} {n c : Nat} {l : List Int} {TL A : List Ob} (h : IlD TT a n c l TL) (hA : TL.Sublist A) (hs : Hld s0 A s) (hf : ∀ x ∈ l, -9223372036854775808 <= x /\ x < 9223372036854775808) (hl : l.length < 140737488355328) : IntsE s a l := by
 rcases h with ⟨rfl, _, _, rfl, _⟩ | ⟨b, op, z, rfl, _, _, h2⟩
 ·exact .nil
 ·exact IntsE.ownP ((hs.sub hA).own (by rw [h2]; exact .here)) hf hl
theorem a_riseU {P : Program} {C : Nat -> (CF -> Bool) -> Bool} {X : FuncId -> List Value -> St -> (Value -> St -> Bool) -> Bool} {s0 : St} {n nt : Nat} {env : List (Nat × Value)} {A : List Ob} {R : Value -> List Ob -> Prop} {f : Ev.X} {l : List Ev.X} {TT g nn c : Nat} {a : Option Addr} {zs : List Int} {U : List Ob} (hX : Rises P X g) (h1c : P.cellsOf TT = 1) (hU : IlC TT a nn c zs U) (hf : xv env f = some (.func (.func g) ⟨[]⟩ ⟨[]⟩)) (hl : xvs env l = some [.slice a nn c]) (hb : zs.length * 8 <= 140737488355328)
 (h : ∀ U', IlD TT a (rsn zs).length c (rsn zs) U' -> R (.slice a (rsn zs).length c) (U' ++ A)) : OpA P C X s0 n nt (.call f l) env (U ++ A) R := by
 rcases hU with ⟨rfl, rfl, rfl, rfl, rfl⟩ | ⟨b, op, rfl, rfl, hc, rfl⟩
 ·have e : rsn [] = [] := List.eq_nil_of_length_eq_zero (Nat.le_zero.1 (rsn_le []))
  have h9 := h [] (by rw [e]; exact .inl ⟨rfl, rfl, rfl, rfl, rfl⟩);rw [e] at h9;exact a_rise0 hX hf hl h9
 ·have hc2 := rsn_le zs
  refine a_rise hX hf hl .here (by rcases hc with ⟨h1, h2⟩ | h1; exact .inl ⟨h1, h2, h1c⟩; exact .inr h1) hb (h [.row b TT op (ints (rsZ zs))] (.inr ⟨b, op, ints (List.replicate (zs.length - (rsn zs).length) 0), rfl, rfl, ?_, by rw [<- ints_app]; rfl⟩));rcases hc with h1 | h1
  ·exact .inl h1
  ·exact .inr ⟨h1.1, by omega⟩
/-! Systems that are cut down to some sources. -/
def srcs (ls : List (List Int)) : List Int := ls.map (fun r => r.getD 3 0)
def kp (t : Bool) (ls : List (List Int)) (ws : List Int) : List (List Int) := ls.filter (fun r => decide (r.getD 3 0 ∈ ws) == t)
theorem kp_yes {t : Bool} {ls : List (List Int)} {ws : List Int} {k : Nat} {r : List Int} (hx : ls[k]? = some r) (h : decide (r.getD 3 0 ∈ ws) = t) : kp t (ls.take (k + 1)) ws = kp t (ls.take k) ws ++ [r] := by
 unfold kp;rw [List.take_add_one, hx, List.filter_append]
 congr 1
 show List.filter _ [r] = [r];rw [List.filter_cons_of_pos (by simpa using h)]; rfl
theorem kp_no {t : Bool} {ls : List (List Int)} {ws : List Int} {k : Nat} {r : List Int} (hx : ls[k]? = some r) (h : ¬ decide (r.getD 3 0 ∈ ws) = t) : kp t (ls.take (k + 1)) ws = kp t (ls.take k) ws := by
 unfold kp;rw [List.take_add_one, hx, List.filter_append];show _ ++ List.filter _ [r] = _;rw [List.filter_cons_of_neg (by simpa using h), List.filter_nil, List.append_nil]
theorem kp_whole {t : Bool} {ls : List (List Int)} {ws : List Int} : kp t (ls.take ls.length) ws = kp t ls ws := by rw [List.take_length]
theorem kp_len {t : Bool} {ls : List (List Int)} {ws : List Int} : (kp t ls ws).length <= ls.length := List.length_filter_le _ _
theorem kp_take {t : Bool} {ls : List (List Int)} {ws : List Int} {k : Nat} : (kp t (ls.take k) ws).length <= k := Nat.le_trans (List.length_filter_le _ _) (by rw [List.length_take]; omega)
theorem kp_mem {t : Bool} {ls : List (List Int)} {ws : List Int} {r : List Int} : r ∈ kp t ls ws ↔ r ∈ ls /\ decide (r.getD 3 0 ∈ ws) = t := by
 unfold kp;rw [List.mem_filter]; simp
theorem lmB_all {m : Int} {ls : List (List Int)} : lmB m ls = true ↔ ∀ r ∈ ls, lmB m [r] = true := by
 induction ls with
 | nil => exact ⟨fun _ r hr => (by cases hr), fun _ => rfl⟩
 | cons a ls ih =>
  have e : lmB m (a :: ls) = (lmB m [a] && lmB m ls) := by
   rw [<- lm_cat]; rfl
  rw [e, Bool.and_eq_true, ih];exact ⟨fun ⟨h1, h2⟩ r hr => by
   rcases List.mem_cons.1 hr with rfl | hr
   ·exact h1
   ·exact h2 r hr, fun h => ⟨h a (List.mem_cons_self ..), fun r hr => h r (List.mem_cons_of_mem _ hr)⟩⟩
theorem kp_lm {m : Int} {t : Bool} {ls : List (List Int)} {ws : List Int} (h : lmB m ls = true) : lmB m (kp t ls ws) = true := lmB_all.2 (fun r hr => lmB_all.1 h r (kp_mem.1 hr).1)
theorem kp_fit {t : Bool} {ls : List (List Int)} {ws : List Int} (h : ∀ r ∈ ls, r.length = 4 /\ ∀ x ∈ r, -9223372036854775808 <= x /\ x < 9223372036854775808) : ∀ r ∈ kp t ls ws, r.length = 4 /\ ∀ x ∈ r, -9223372036854775808 <= x /\ x < 9223372036854775808 := fun r hr => h r (kp_mem.1 hr).1
theorem kp_sys {M : Nat} {t : Bool} {ls : List (List Int)} {ws : List Int} (hM : M <= 64) (hl : ls.length <= 400) (h : lmB (M : Int) ls = true) : sysE (M : Int) (kp t ls ws) = 0 := by
 have := kp_len (t := t) (ls := ls) (ws := ws);unfold sysE;rw [if_pos (by omega), if_neg (by omega), if_pos (kp_lm h)]
theorem kq_mem {ls : List (List Int)} {x : Nat -> Int} : Kq ls x ↔ ∀ r ∈ ls, x ((r.getD 1 0).toNat) <= x ((r.getD 0 0).toNat) + r.getD 2 0 := by
 constructor
 ·intro h r hr
  obtain ⟨i, hi, e⟩ := List.mem_iff_getElem.1 hr;have := h i hi;unfold la lb lw at this
  rwa [show ls.getD i [] = r from by rw [List.getD_eq_getElem?_getD, List.getElem?_eq_getElem hi, e]; rfl] at this
 ·intro h i hi
  have := h _ (List.getElem_mem hi);unfold la lb lw;rw [show ls.getD i [] = ls[i] from by rw [List.getD_eq_getElem?_getD, List.getElem?_eq_getElem hi]; rfl];exact this
theorem uns_sub {l l2 : List (List Int)} {M : Nat} (hl : lmB (M : Int) l = true) (hl2 : lmB (M : Int) l2 = true) (h4 : l.length <= 400) (h42 : l2.length <= 400) (hM : M <= 64) (hs : ∀ r ∈ l, r ∈ l2) (h : ¬ Uns l2 (M + 1)) : ¬ Uns l (M + 1) := by
 obtain ⟨x, hx, _⟩ := set_pt hl2 h42 hM h;exact pt_uns hl h4 hM (kq_mem.2 (fun r hr => kq_mem.1 hx r (hs r hr)))
theorem on_uns {ls : List (List Int)} {M : Nat} {u v : List Int} (hl : lmB (M : Int) ls = true) (h4 : ls.length <= 400) (hM : M <= 64) (hs : ∀ y ∈ u, y ∈ v) (h : ¬ Uns (kp true ls v) (M + 1)) : ¬ Uns (kp true ls u) (M + 1) := uns_sub (kp_lm hl) (kp_lm hl) (by have := kp_len (t := true) (ls := ls) (ws := u); omega) (by have := kp_len (t := true) (ls := ls) (ws := v); omega) hM (fun r hr => by
 obtain ⟨h1, h2⟩ := kp_mem.1 hr;exact kp_mem.2 ⟨h1, decide_eq_true (hs _ (of_decide_eq_true h2))⟩) h
theorem de_mem {l : List Int} {i : Nat} {y : Int} (h : y ∈ de l i) : y ∈ l := by
 unfold de at h;rcases List.mem_append.1 h with q | q
 ·exact List.mem_of_mem_take q
 ·exact List.mem_of_mem_drop q
theorem de_inc {l : List Int} {i : Nat} (h : l.Pairwise (· < ·)) : (de l i).Pairwise (· < ·) := by
 have : (de l i).Sublist l := by
  have e : l = l.take i ++ l.drop i := (List.take_append_drop i l).symm;unfold de
  conv => rhs; rw [e]
  refine List.Sublist.append (.refl _) ?_;rw [<- List.drop_drop];exact List.drop_sublist _ _
 exact h.sublist this
theorem de_get {l : List Int} {i j : Nat} (hi : i < l.length) (hj : j + 1 < l.length) : (de l i).getD j 0 = l.getD (if j < i then j else j + 1) 0 := by
 unfold de;by_cases q : j < i
 ·rw [if_pos q, List.getD_eq_getElem?_getD, List.getD_eq_getElem?_getD, List.getElem?_append_left (by rw [List.length_take]; omega), List.getElem?_take, if_pos q]
 ·rw [if_neg q, List.getD_eq_getElem?_getD, List.getD_eq_getElem?_getD, List.getElem?_append_right (by rw [List.length_take]; omega), List.length_take, List.getElem?_drop]
  congr 2; omega
theorem inc_lt {l : List Int} (h : l.Pairwise (· < ·)) {i j : Nat} (hij : i < j) (hj : j < l.length) : l.getD i 0 < l.getD j 0 := by
 have := (List.pairwise_iff_getElem.1 h) i j (by omega) hj hij;rw [List.getD_eq_getElem?_getD, List.getD_eq_getElem?_getD, List.getElem?_eq_getElem (show i < l.length by omega), List.getElem?_eq_getElem hj];exact this
theorem de_iff {l : List Int} {i : Nat} {y : Int} (h : l.Pairwise (· < ·)) (hi : i < l.length) : y ∈ de l i ↔ y ∈ l /\ ¬ y = l.getD i 0 := by
 constructor
 ·intro q
  refine ⟨de_mem q, fun e => ?_⟩;obtain ⟨k, hk, hk2⟩ := mem_get q;have hl := de_len hi;rw [de_get hi (by omega)] at hk2;by_cases c : k < i
  ·rw [if_pos c] at hk2
   have := inc_lt h c hi; omega
  ·rw [if_neg c] at hk2
   have := inc_lt h (show i < k + 1 by omega) (by omega); omega
 ·rintro ⟨q, q2⟩
  obtain ⟨k, hk, e⟩ := mem_get q;have hki : k ≠ i := fun c => by subst c; exact q2 e.symm
  have hl := de_len hi;by_cases c : k < i
  ·have h9 := de_get (j := k) hi (by omega)
   rw [if_pos c, e] at h9;rw [<- h9]; exact get_mem (by omega)
  ·have h9 := de_get (j := k - 1) hi (by omega)
   rw [if_neg (by omega), show k - 1 + 1 = k by omega, e] at h9;rw [<- h9]; exact get_mem (by omega)
structure CfI (ls : List (List Int)) (M : Nat) (K : List Int) (i : Nat) : Prop where
 inc : K.Pairwise (· < ·)
 sub : ∀ y ∈ K, y ∈ srcs ls
 un : Uns (kp true ls K) (M + 1)
 le : i <= K.length
 no : ∀ j, i <= j -> j < K.length -> ¬ Uns (kp true ls (de K j)) (M + 1)
theorem on_all {ls : List (List Int)} : kp true ls (rsn (srcs ls)) = ls := by
 unfold kp;refine List.filter_eq_self.2 (fun r hr => ?_);have : r.getD 3 0 ∈ rsn (srcs ls) := (rsn_mem _ _).2 (List.mem_map.2 ⟨r, hr, rfl⟩);simpa using this
theorem CfI.start {ls : List (List Int)} {M : Nat} (h : Uns ls (M + 1)) : CfI ls M (rsn (srcs ls)) (rsn (srcs ls)).length := ⟨rsn_inc _, fun y hy => (rsn_mem _ _).1 hy, by rw [on_all]; exact h, Nat.le_refl _, fun j h1 h2 => by omega⟩
theorem CfI.less {ls : List (List Int)} {M i : Nat} {K : List Int} (hl : lmB (M : Int) ls = true) (h4 : ls.length <= 400) (hM : M <= 64) (h : CfI ls M K (i + 1)) (hu : Uns (kp true ls (de K i)) (M + 1)) : CfI ls M (de K i) i := by
 have hle := h.le;have hd := de_len (l := K) (i := i) (by omega);refine ⟨de_inc h.inc, fun y hy => h.sub y (de_mem hy), hu, by omega, fun j h1 h2 => ?_⟩;refine on_uns hl h4 hM (fun y hy => ?_) (h.no (j + 1) (by omega) (by omega));obtain ⟨k1, k2⟩ := (de_iff (de_inc h.inc) h2).1 hy;refine (de_iff h.inc (by omega)).2 ⟨de_mem k1, fun e => k2 ?_⟩;rw [e, de_get (by omega) (by omega), if_neg (by omega)]
theorem CfI.keep {ls : List (List Int)} {M i : Nat} {K : List Int} (h : CfI ls M K (i + 1)) (hu : ¬ Uns (kp true ls (de K i)) (M + 1)) : CfI ls M K i := by
 have hle := h.le;refine ⟨h.inc, h.sub, h.un, by omega, fun j h1 h2 => ?_⟩;by_cases q : j = i
 ·subst q; exact hu
 ·exact h.no j (by omega) h2
theorem nil_uns {M : Nat} (hM : M <= 64) : ¬ Uns [] (M + 1) := pt_uns (ls := []) (x := fun _ => 0) J (by decide) hM (fun i hi => absurd hi (Nat.not_lt_zero i))
theorem CfI.pos {ls : List (List Int)} {M i : Nat} {K : List Int} (hM : M <= 64) (h : CfI ls M K i) : 0 < K.length := by
 refine Nat.pos_of_ne_zero (fun e => ?_);obtain rfl := List.eq_nil_of_length_eq_zero e;have e2 : kp true ls [] = [] := List.filter_eq_nil_iff.2 (fun r _ => by simp);have := h.un;rw [e2] at this;exact nil_uns hM this
theorem wo_on {ls : List (List Int)} {K o9 : List Int} (h : ∀ y, y ∈ o9 ↔ y ∈ rsn (srcs ls) /\ ¬ y ∈ K) : kp false ls o9 = kp true ls K := by
 unfold kp;refine List.filter_congr (fun r hr => ?_);have h1 : r.getD 3 0 ∈ rsn (srcs ls) := (rsn_mem _ _).2 (List.mem_map.2 ⟨r, hr, rfl⟩);have h2 := h (r.getD 3 0);by_cases q : r.getD 3 0 ∈ K
 ·rw [decide_eq_false (fun c => (h2.1 c).2 q), decide_eq_true q]; rfl
 ·rw [decide_eq_true (h2.2 ⟨h1, q⟩), decide_eq_false q]; rfl
theorem wo_one {ls : List (List Int)} {K : List Int} {i : Nat} (h : K.Pairwise (· < ·)) (hi : i < K.length) : kp false (kp true ls K) [K.getD i 0] = kp true ls (de K i) := by
 unfold kp;rw [List.filter_filter];refine List.filter_congr (fun r _ => ?_);have h2 := de_iff (y := r.getD 3 0) h hi;by_cases q : r.getD 3 0 ∈ de K i
 ·obtain ⟨q1, q2⟩ := h2.1 q
  rw [decide_eq_true q, decide_eq_true q1, decide_eq_false (fun c => q2 (by simpa using c))]; rfl
 ·rw [decide_eq_false q]
  by_cases p : r.getD 3 0 ∈ K
  ·have : r.getD 3 0 = K.getD i 0 := Classical.byContradiction (fun c => q (h2.2 ⟨p, c⟩))
   rw [decide_eq_true (by rw [this]; exact List.mem_singleton.2 rfl)]; rfl
  ·rw [decide_eq_false p]; simp
section
variable {X : FuncId -> List Value -> St -> (Value -> St -> Bool) -> Bool}
end
set_option maxRecDepth 100000
theorem u_half : ∀ m : Nat, m <= 65 -> evBin Try.prog .shr 108 0 (.int .u64 (m : Int)) (.int .u64 1) = some (.int .u64 ((m / 2 : Nat) : Int))
 | 0, _ => by kernel_rfl
 | 1, _ => by kernel_rfl
 | 2, _ => by kernel_rfl
 | 3, _ => by kernel_rfl
 | 4, _ => by kernel_rfl
 | 5, _ => by kernel_rfl
 | 6, _ => by kernel_rfl
 | 7, _ => by kernel_rfl
 | 8, _ => by kernel_rfl
 | 9, _ => by kernel_rfl
 | 10, _ => by kernel_rfl
 | 11, _ => by kernel_rfl
 | 12, _ => by kernel_rfl
 | 13, _ => by kernel_rfl
 | 14, _ => by kernel_rfl
 | 15, _ => by kernel_rfl
 | 16, _ => by kernel_rfl
 | 17, _ => by kernel_rfl
 | 18, _ => by kernel_rfl
 | 19, _ => by kernel_rfl
 | 20, _ => by kernel_rfl
 | 21, _ => by kernel_rfl
 | 22, _ => by kernel_rfl
 | 23, _ => by kernel_rfl
 | 24, _ => by kernel_rfl
 | 25, _ => by kernel_rfl
 | 26, _ => by kernel_rfl
 | 27, _ => by kernel_rfl
 | 28, _ => by kernel_rfl
 | 29, _ => by kernel_rfl
 | 30, _ => by kernel_rfl
 | 31, _ => by kernel_rfl
 | 32, _ => by kernel_rfl
 | 33, _ => by kernel_rfl
 | 34, _ => by kernel_rfl
 | 35, _ => by kernel_rfl
 | 36, _ => by kernel_rfl
 | 37, _ => by kernel_rfl
 | 38, _ => by kernel_rfl
 | 39, _ => by kernel_rfl
 | 40, _ => by kernel_rfl
 | 41, _ => by kernel_rfl
 | 42, _ => by kernel_rfl
 | 43, _ => by kernel_rfl
 | 44, _ => by kernel_rfl
 | 45, _ => by kernel_rfl
 | 46, _ => by kernel_rfl
 | 47, _ => by kernel_rfl
 | 48, _ => by kernel_rfl
 | 49, _ => by kernel_rfl
 | 50, _ => by kernel_rfl
 | 51, _ => by kernel_rfl
 | 52, _ => by kernel_rfl
 | 53, _ => by kernel_rfl
 | 54, _ => by kernel_rfl
 | 55, _ => by kernel_rfl
 | 56, _ => by kernel_rfl
 | 57, _ => by kernel_rfl
 | 58, _ => by kernel_rfl
 | 59, _ => by kernel_rfl
 | 60, _ => by kernel_rfl
 | 61, _ => by kernel_rfl
 | 62, _ => by kernel_rfl
 | 63, _ => by kernel_rfl
 | 64, _ => by kernel_rfl
 | 65, _ => by kernel_rfl
 | n + 66, h => absurd h (by omega)
theorem cells_int : Try.prog.cellsOf 3 = 1 := by kernel_rfl
theorem up_lt {w : List Int} {y : Int} {h : Nat} (hs : w.Pairwise (· < ·)) (hh : h < w.length) (hl : w.getD h 0 < y) : ∀ q, q < h + 1 -> w.getD q 0 < y := fun q hq => by
 by_cases e : q = h
 ·subst e; exact hl
 ·have := inc_lt hs (show q < h by omega) hh; omega
theorem up_ge {w : List Int} {y : Int} {h : Nat} (hs : w.Pairwise (· < ·)) (hl : ¬ w.getD h 0 < y) : ∀ q, h <= q -> q < w.length -> y <= w.getD q 0 := fun q hq hq2 => by
 by_cases e : q = h
 ·subst e; omega
 ·have := inc_lt hs (show h < q by omega) hq2; omega
theorem bs_no {w : List Int} {y : Int} {i : Nat} (hs : w.Pairwise (· < ·)) (h1 : ∀ q, q < i -> w.getD q 0 < y) (h2 : ∀ q, i <= q -> q < w.length -> y <= w.getD q 0) (h3 : i < w.length -> ¬ w.getD i 0 = y) : ¬ y ∈ w := fun hm => by
 obtain ⟨q, hq, e⟩ := mem_get hm;by_cases c : q < i
 ·have := h1 q c; omega
 ·by_cases c2 : q = i
  ·subst c2; exact h3 hq e
  ·have a1 := inc_lt hs (show i < q by omega) hq
   have a2 := h2 i (Nat.le_refl _) (by omega);omega
def srR (ls : List (List Int)) (k : Nat) : List Int := srcs (ls.take k) ++ List.replicate (ls.length - k) 0
theorem srcs_len {ls : List (List Int)} : (srcs ls).length = ls.length := by unfold srcs; rw [List.length_map]
theorem srR_len {ls : List (List Int)} {k : Nat} (h : k <= ls.length) : (srR ls k).length = ls.length := by
 unfold srR;rw [List.length_append, List.length_replicate, srcs_len, List.length_take]; omega
theorem srR_zero {ls : List (List Int)} : List.replicate ls.length (0 : Int) = srR ls 0 := rfl
theorem srR_all {ls : List (List Int)} : srR ls ls.length = srcs ls := by unfold srR; rw [List.take_length, Nat.sub_self]; exact List.append_nil _
theorem srR_step {ls : List (List Int)} {k : Nat} {y0 y1 y2 y3 : Int} (hx : ls[k]? = some [y0, y1, y2, y3]) : over (ints (srR ls k)) (k * 1) [.int .i64 y3] = ints (srR ls (k + 1)) := by
 obtain ⟨hk, _⟩ := List.getElem?_eq_some_iff.1 hx;rw [over_ints (by rw [srR_len (by omega)]; exact hk)]
 congr 1
 unfold srR srcs;rw [List.take_add_one, hx, List.map_append, List.set_append_right _ _ (by rw [List.length_map, List.length_take]; omega), List.length_map, List.length_take, show k - min k ls.length = 0 by omega, show ls.length - k = (ls.length - (k + 1)) + 1 by omega, List.replicate_succ, List.set_cons_zero, List.append_assoc]; rfl
theorem rsn_fit {w : List Int} (h : ∀ x ∈ w, -9223372036854775808 <= x /\ x < 9223372036854775808) : ∀ x ∈ rsn w, -9223372036854775808 <= x /\ x < 9223372036854775808 := fun x hx => h x ((rsn_mem _ _).1 hx)
theorem srcs_fit {M : Nat} {ls : List (List Int)} (h : lmB (M : Int) ls = true) : ∀ x ∈ srcs ls, -9223372036854775808 <= x /\ x < 9223372036854775808 := fun x hx => by
 obtain ⟨r, hr, e⟩ := List.mem_map.1 hx;obtain ⟨i, hi, e2⟩ := List.mem_iff_getElem.1 hr;obtain ⟨_, _, _, _, _, y3, e3⟩ := lg_of h i hi;have hc := lmB_at h e3;rw [List.getElem?_eq_getElem hi, e2] at e3;cases e3;have e : y3 = x := e;omega
theorem kl_step {t : Bool} {ls : List (List Int)} {ws : List Int} {k : Nat} {y0 y1 y2 y3 : Int} (hx : ls[k]? = some [y0, y1, y2, y3]) (h : decide (y3 ∈ ws) = t) : limC (kp t (ls.take k) ws) ++ [.int .i64 y0, .int .i64 y1, .int .i64 y2, .int .i64 y3] = limC (kp t (ls.take (k + 1)) ws) := by
 rw [kp_yes hx h, limC_app]
 congr 1
 exact limC_row.symm
section
variable {X : FuncId -> List Value -> St -> (Value -> St -> Bool) -> Bool}
theorem snan_s (n : Nat) (x : Int) (s : St) (hs : Wf s) : Spec Try.prog (tabK tabw) X (n + 20) 81 [.int .i64 x] s (fun v A => v = .bool false /\ A = []) := by
 refine enter bw81_at rfl hs ?_;unfold bw81;refine rS (kM J J (Q0 (rS (kM J J (kM J J (kO J (Y4 J J (fun h1 => ?_) (fun h1 => ?_))))))))
 ·exact absurd rfl h1
 ·refine kM J J (Q0 (Y3 ?_))
  exact end1 J ⟨rfl, rfl⟩
theorem cnan_s (n : Nat) (x : Int) (s : St) (hs : Wf s) : Spec Try.prog (tabK tabw) X (n + 20) 89 [.int .i64 x] s (fun v A => v = .bool false /\ A = []) := by
 refine enter bw89_at rfl hs ?_;unfold bw89;refine rS (kM J J (Q0 (rS (kM J J (kM J J (kO J (Y4 J J (fun h1 => ?_) (fun h1 => ?_))))))))
 ·exact absurd rfl h1
 ·refine kM J J (Q0 (Y3 ?_))
  exact end1 J ⟨rfl, rfl⟩
theorem less_s (n : Nat) (x y : Int) (s : St) (hs : Wf s) : Spec Try.prog (tabK tabw) X (n + 40) 80 [.int .i64 x, .int .i64 y] s (fun v A => v = .bool (decide (x < y)) /\ A = []) := by
 refine enter bw80_at rfl hs ?_;unfold bw80;refine rS (kM J J (Q0 (rS (kM J J (kO J (a_callV J J (fun s1 h1 => cnan_s _ _ s1 h1.wf) (kM J J (U0 J J (U0 J J (U0 J J (kO J (V1 J J J (kM J J (kG J J (W3 J (kG J J (W3 J (kG J J (V5 J J (fun h1 => ?_) (fun h1 => ?_))))))))))))))))))))
 ·refine kO J (V1 J J J (kM J J (Q0 (Y3 ?_))))
  exact end1 J ⟨by rw [decide_eq_true (by omega)], rfl⟩
 ·refine kO J (V1 J J J (kM J J (Q0 (Y3 ?_))))
  exact end1 J ⟨by rw [decide_eq_false (by omega)], rfl⟩
theorem BinarySearch_s (n : Nat) (aw : Option Addr) (cw : Nat) (w : List Int) (y : Int) (s : St) (hs : Wf s) (hn : 281474976710656 <= n) (hW : IntsE s aw w) (hinc : w.Pairwise (· < ·)) (h32 : w.length <= 32) : Spec Try.prog (tabK tabw) X (n + 500) 67 [.slice aw w.length cw, .int .i64 y] s (fun v A => (y ∈ w /\ (∃ r, v = .tuple #[.int .i64 r, .bool true]) /\ A = []) ∨ (¬ y ∈ w /\ (∃ r, v = .tuple #[.int .i64 r, .bool false]) /\ A = [])) := by
 refine enter bw67_at rfl hs ?_;unfold bw67;have hlen := hW.len;refine rS (kM J J (kM J J (Q0 (rS (kM J J (kO J (a_lenx J hW.spot (kM J J (Q0 (rS (kM J J (kM J J (kM J J (Q0 (rQ (Y1 (Y5 (fun j e A => ∃ (i u : Nat), e = [(0, .slice aw w.length cw), (1, .int .i64 y), (6, .int .i64 (w.length : Int)), (7, .int .i64 (i : Int)), (8, .int .i64 (u : Int))] /\ A = [] /\ j = u - i /\ i <= u /\ u <= w.length /\ (∀ q, q < i -> w.getD q 0 < y) /\ ∀ q, u <= q -> q < w.length -> y <= w.getD q 0) 300 0 281474976710656 ?_ (j := _) (env2 := _) (A2 := _) ?_ ?_ ?_ ?_ ⟨0, w.length, rfl, rfl, rfl, Nat.zero_le _, Nat.le_refl _, (fun q hq => absurd hq (Nat.not_lt_zero q)), (fun q h1 h2 => absurd h2 (by omega))⟩)))))))))))))))))
 rotate_left
 ·omega
 ·omega
 ·exact (lc 0 J (lc 1 J (lc 6 J (lc 7 J (lc 8 J Less.nil)))))
 ·exact .slnil
 rintro n hn j _ _ ⟨i, u, rfl, rfl, rfl, hij, hj, hlo, hhi⟩;refine rQ (rS (kM J J (kM J J (kO J (V5 J J (fun h1 => ?_) (fun h1 => ?_))))))
 ·refine Q0 (Y0 J (Q1 (W0 (Y1 (rS (kM J J (kM J J (kO J (V3 J J (by omega) ?_)))))))))
  rw [show (i : Int) + (u : Int) = ((i + u : Nat) : Int) from rfl];refine kO J (a_conv J (u_conv (i + u) (by omega)) (kO J (a_bin J J (u_half (i + u) (by omega)) (kO J (a_conv J (i_conv ((i + u) / 2) (by omega)) ?_)))));obtain ⟨h, hh⟩ : ∃ h, h = (i + u) / 2 := ⟨_, rfl⟩;rw [<- hh];refine kM J J (Q0 (rS (kM J J (kM J J (kO J (V7 (j := h) hW rfl rfl (by omega) (by first | rfl | omega) (by omega) (fun _ _ a2 => (kO J (Q7 J (hW.at a2 (by omega)) (kM J J (kO J (a_callB J J (fun s1 h1 => less_s _ _ _ s1 h1.wf) (fun h3 => ?_) (fun h3 => ?_)))))))))))))
  ·have hlt9 := h3
   refine Q0 (Y0 J (rI (kM J J (kO J (V3 J J (by omega) (kM J J (Q0 (U1 (W0 ?_)))))))));exact ⟨rfl, _, _, _, (show u - (h + 1) < u - i by omega), (lc 0 J (lc 1 J (lc 6 J (lc 7 J (lc 8 J Less.nil))))), .slnil, ⟨h + 1, u, rfl, rfl, rfl, (by omega), (by omega), (up_lt hinc (by omega) hlt9), hhi⟩⟩
  ·have hlt9 := h3
   refine Q0 (Z0 J (rI (kM J J (kM J J (Q0 (U1 (W0 ?_)))))));exact ⟨rfl, _, _, _, (show h - i < u - i by omega), (lc 0 J (lc 1 J (lc 6 J (lc 7 J (lc 8 J Less.nil))))), .slnil, ⟨i, h, rfl, rfl, rfl, (by omega), (by omega), hlo, (up_ge hinc hlt9)⟩⟩
 ·obtain rfl : i = u := by omega
  refine Q0 (Z0 J (Q5 (Q3 (Q3 (Z3 (W0 (rS (kM J J (kM J J (kM J J (kO J (V5 J J (fun h4 => ?_) (fun h4 => ?_)))))))))))))
  ·refine kM J J (kG J J (W3 J (kG J J (W3 J (kG J J (V7 (j := i) hW rfl rfl (by omega) (by first | rfl | omega) (by omega) (fun _ _ a5 => (kG J J (Q7 J (hW.at a5 (by omega)) (kG J J (W3 J (kG J J (a_eql J J (fun h6 => ?_) (fun h6 => ?_))))))))))))))
   ·have hfd : w.getD i 0 = y := h6
    refine kG J J (W3 J (U0 J J (U0 J J (U0 J J (U0 J J (U0 J J (U0 J J (U0 J J (U0 J J (U0 J J (kG J J (V2 J J J (kO J (V2 J J J (kM J J (kM J J (Q0 (Y3 ?_))))))))))))))))));exact end2 J J (.inl ⟨hfd ▸ get_mem (by omega), ⟨_, rfl⟩, rfl⟩)
   ·have hne9 := h6
    refine kG J J (W3 J (kG J J (W3 J (kG J J (W3 J (kG J J (V7 (j := i) hW rfl rfl (by omega) (by first | rfl | omega) (by omega) (fun _ _ a7 => (kG J J (Q7 J (hW.at a7 (by omega)) (kG J J (a_callV J J (fun s1 h1 => snan_s _ _ s1 h1.wf) (kG J J (W3 J (U0 J J (U0 J J (kG J J (V1 J J J (kG J J (V1 J J J (kO J (V2 J J J (kM J J (kM J J (Q0 (Y3 ?_))))))))))))))))))))))))));exact end2 J J (.inr ⟨bs_no hinc hlo hhi (by first | exact fun _ => hne9 | exact fun q => absurd q (by omega)), ⟨_, rfl⟩, rfl⟩)
  ·refine kM J J (U0 J J (U0 J J (U0 J J (U0 J J (U0 J J (U0 J J (U0 J J (U0 J J (U0 J J (U0 J J (U0 J J (U0 J J (U0 J J (U0 J J (U0 J J (U0 J J (U0 J J (kO J (V1 J J J (kM J J (kM J J (Q0 (Y3 ?_)))))))))))))))))))))))
   exact end2 J J (.inr ⟨bs_no hinc hlo hhi (by first | exact fun _ => hne9 | exact fun q => absurd q (by omega)), ⟨_, rfl⟩, rfl⟩)
theorem CloneI_e (n : Nat) (aw : Option Addr) (cw : Nat) (s : St) (hs : Wf s) (hsp : ∀ b, aw = some b -> b.spot = none) (hcl : aw = none -> cw = 0) : Spec Try.prog (tabK tabw) X (n + 100) 53 [.slice aw 0 cw] s (fun v A => (v = .slice none 0 0 /\ A = []) ∨ ∃ b, v = .slice (some ⟨b, 0, none⟩) 0 0 /\ A = [.row b 3 false []]) := by
 refine enter bw53_at rfl hs ?_;unfold bw53;refine rS (kM J J (Q0 (rQ (rS (kM J J (kO J (a_eqN J J (by kernel_rfl) (fun q => ⟨rfl, hcl q⟩) (fun h1 => ?_) (fun h1 => ?_))))))))
 ·refine Q0 (Y0 J (rS (kM J J (Q0 (Y3 (U3 ?_))))))
  exact end1 J (.inl ⟨rfl, rfl⟩)
 ·refine Q0 (Z0 J (Q1 (W0 (rS (kO J (a_lit J J J (fun b2 => (kM J J (kO J (a_appzz J (fun b hb => by cases hb; rfl) J hsp (kM J J (Q0 (Y3 ?_)))))))))))))
  exact end1A J (.q .slnil) (.inr ⟨_, rfl, rfl⟩)
theorem CloneI_g (n : Nat) (aw : Option Addr) (cw : Nat) (w : List Int) (s : St) (hs : Wf s) (hW : IntsE s aw w) (hcl : aw = none -> cw = 0) (h64 : w.length <= 100000) : Spec Try.prog (tabK tabw) X (n + 100) 53 [.slice aw w.length cw] s (fun v A => ∃ a c U, v = .slice a w.length c /\ A = U /\ IlC 3 a w.length c w U) := by
 by_cases e : w = []
 ·subst e
  refine (CloneI_e n aw cw s hs hW.spot hcl (X := X)).imp (fun v A q => ?_);rcases q with ⟨rfl, rfl⟩ | ⟨b, rfl, rfl⟩
  ·exact ⟨none, 0, [], rfl, rfl, .inl ⟨rfl, rfl, rfl, rfl, rfl⟩⟩
  ·exact ⟨_, 0, _, rfl, rfl, .inr ⟨b, false, rfl, rfl, .inr ⟨by decide, Nat.le_refl _⟩, rfl⟩⟩
 ·refine (CloneI_s n aw cw w s hs hW e h64 (X := X)).imp (fun v A q => ?_)
  obtain ⟨b, rfl, rfl⟩ := q;exact ⟨_, OPEN, _, rfl, rfl, .inr ⟨b, true, rfl, rfl, .inl ⟨rfl, rfl⟩, rfl⟩⟩
theorem except_s (n : Nat) (aw : Option Addr) (cw : Nat) (w : List Int) (k : Nat) (s : St) (hs : Wf s) (hW : IntsE s aw w) (hk : k < w.length) (h4 : w.length <= 400) : Spec Try.prog (tabK tabw) X (n + 300) 43 [.slice aw w.length cw, .int .i64 (k : Int)] s (fun v A => ∃ b, v = .slice (some ⟨b, 0, none⟩) (de w k).length OPEN /\ A = [.row b 3 true (ints (de w k) ++ [.int .i64 0])]) := by
 refine enter bw43_at rfl hs ?_;unfold bw43;have hlen := hW.len;have hne : w ≠ [] := fun e => by rw [e] at hk; exact absurd hk (Nat.not_lt_zero k)
 obtain ⟨w2, hw2⟩ : ∃ w2, w2 = de w k := ⟨_, rfl⟩;have hn2 : w2.length + 1 = w.length := by rw [hw2]; exact de_len hk
 refine rS (kM J J (Q0 (rS (kM J J (kO J (W5 J J (fun s1 h1 => CloneI_s _ aw cw w s1 h1.wf (hW.ext hs h1.2.1) hne (by omega)) (fun v1 A1 q1 => ?_)))))));obtain ⟨bk1, rfl, rfl⟩ := q1;refine kM J J (kM J J (kO J (V3 J J (by omega) (kG J J (a_inl J J bw65_at rfl ?_)))));unfold bw65;refine rS (kM J J (Q0 (rS (kM J J (kM J J (kM J J (kM J J (kO J (a_len J (kO J (a_sl1M (l := k) (h := k + 1) (u := w.length) J J J J .here (by omega) (by omega) (by omega) (by show _ < 18446744073709551616; omega) (by rw [ints_len]; omega) (Q0 (rQ (rS (kM J J (kM J J (kO J (a_eql J J (fun h2 => ?_) (fun h2 => ?_)))))))))))))))))))
 ·exfalso; omega
 ·refine Q0 (Z0 J (Q1 (W0 (rS (kM J J (kO J (a_len J (kM J J (Q0 (rS (kM J J (kM J J (kO J (a_sl1T (h := k) J J .here (by rw [ints_len]; omega) (kM J J (kM J J (kO J (a_sl1F (l := k + 1) J J .here (by omega) (by rw [ints_len]; omega) (kO J (a_appD1 (k := k) (w := w) (by omega) (by omega) J J .here ?_))))))))))))))))))))
  obtain ⟨d9, hd9, hd4⟩ : ∃ d, d = (ints w).drop (w.length - 1) /\ d.length = 1 := ⟨_, rfl, by rw [List.length_drop, ints_len]; omega⟩;rw [<- hd9, <- hw2, show w.length - 1 = w2.length by omega];refine kM J J (Q0 (rS (kM J J (kM J J (kO J (a_len J (kM J J (kO J (a_sl1B (l := w2.length) (h := w.length) J J J .here (by omega) (by rw [List.length_append, ints_len, hd4]; omega) (kZ J (a_clrD1 (w2 := w2) hn2.symm hd4 rfl rfl .here (Q0 (rS (kM J J (kM J J (Q0 (Y3 (endD1 J .nil (kM J J (Q0 (Y3 ?_)))))))))))))))))))));subst hw2;exact end1A J (.q .slnil) ⟨_, rfl, rfl⟩
theorem Sources_s (n : Nat) (M : Nat) (al : Option Addr) (cl : Nat) (ls : List (List Int)) (s : St) (hs : Wf s) (hn : 562949953421312 <= n) (hL : RowsE s 4 al ls) (hXr : Rises Try.prog X 46) (h4 : ls.length <= 400) : Spec Try.prog (tabK tabw) X (n + 500) 20 [.agg ⟨[.int .i64 (M : Int), .slice al ls.length cl]⟩] s (fun v A => ∃ b c z, v = .slice (some ⟨b, 0, none⟩) (rsn (srcs ls)).length c /\ c < OPEN /\ (rsn (srcs ls)).length <= c /\ A = [.row b 3 false (ints (rsn (srcs ls)) ++ z)]) := by
 refine enter bw20_at rfl hs ?_;unfold bw20;have hlen := hL.len;refine rS (kO J (a_box J J J (fun b1 => (kM J J (Q0 (rS (kO J (Z2 J (kO J (Z1 J .here rfl (kO J (a_lenx J hL.spot (kO J (a_mksI (m := 0) (c := ls.length) J J (by omega) (by omega) (by omega) (fun b2 => (kM J J (Q0 (rQ (rS (kO J (Z2 J (kO J (Z1 J (.next .here) J (kO J (a_lenx J hL.spot (kM J J (Q0 (Y1 ?_))))))))))))))))))))))))))));rw [srR_zero (ls := ls)];refine Y5 (fun j e A => ∃ (k : Nat), e = [(1, .pointer (some ⟨b1, 0, none⟩)), (3, .slice (some ⟨b2, 0, none⟩) k ls.length), (11, .slice al ls.length cl), (12, .int .i64 (ls.length : Int)), (13, .int .i64 (k : Int))] /\ A = (.row b2 3 false (ints (srR ls k)) :: (.row b1 29 false ([.int .i64 (M : Int), .slice al ls.length cl]) :: [])) /\ j = ls.length - k /\ k <= ls.length) 300 0 281474976710656 ?_ (j := _) (env2 := _) (A2 := _) ?_ ?_ ?_ ?_ ⟨0, rfl, rfl, rfl, Nat.zero_le _⟩
 rotate_left
 ·omega
 ·omega
 ·exact (lc 1 J (lc 3 J (lc 11 J (lc 12 J (lc 13 J Less.nil)))))
 ·exact (.q (.q .slnil))
 rintro n hn j _ _ ⟨k, rfl, rfl, rfl, hk⟩;refine rS (kO J (V5 J J (fun h3 => ?_) (fun h3 => ?_)))
 ·obtain ⟨q4, o4, y0, y1, y2, y3, ahL, hx, hat, i0, i1, i2, i3⟩ := hL.row4 (k := k) (by omega)
  have hat2 := hat;obtain ⟨d0, d1, d2, d3, _⟩ := hat2;have := i0.lo; have := i0.hi;have := i1.lo; have := i1.hi;have := i2.lo; have := i2.hi;have := i3.lo; have := i3.hi;refine Q0 (rQ (Y0 J (Q1 (W0 (rQ (Y1 (rS (kO J (a_iaA (j := k) ahL rfl rfl (by first | rfl | omega) (by first | decide | omega) (kO J (a_ldar J (by decide) (by assumption) J (kO J (a_new J J (fun b4 => (kZ J (V6 J J .here rfl rfl rfl rfl (Q0 (rI (kM J J (kO J (Z2 J (kO J (Z1 J .here rfl (kO J (a_lit J J J (fun b5 => (kO J (a_appc J J (Src.own .here rfl (by simp)) (.next (.next .here)) (by rw [ints_len, srR_len (by omega), Nat.mul_one]) (by omega) (by show _ < 18446744073709551616; omega) (by omega) (by omega) (kM J J (Q0 (U1 (W0 (rI ?_)))))))))))))))))))))))))))))))));refine kO J (V3 J J (by omega) (kM J J (Q0 (W0 ?_))));exact ⟨rfl, _, _, _, (show ls.length - (k + 1) < ls.length - k by omega), (lc 1 J (lc 3 J (lc 11 J (lc 12 J (lc 13 J Less.nil))))), (.cons _ (.cons _ (.q (.q .slnil)))), ⟨k + 1, rfl, (by rw [<- srR_step hx]; rfl), rfl, by omega⟩⟩
 ·obtain rfl : k = ls.length := by omega
  rw [srR_all];refine Q0 (rQ (Z0 J (Q5 (Q3 (Q3 (Z3 (W0 (rS (kM J J (kO J (a_rise (zs := srcs ls) hXr rfl (show xvs _ _ = some [.slice (some ⟨b2, 0, none⟩) (srcs ls).length ls.length] from by rw [srcs_len]; rfl) .here (.inr ⟨by show _ < 18446744073709551616; omega, by rw [srcs_len]; exact Nat.le_refl _⟩) (by rw [srcs_len]; omega) (kM J J (Q0 (Y3 ?_))))))))))))));exact end1A J (.q (.cons _ .slnil)) ⟨_, ls.length, ints (List.replicate ((srcs ls).length - (rsn (srcs ls)).length) 0), rfl, by show _ < 18446744073709551616; omega, by have := rsn_le (srcs ls); rw [srcs_len] at this; exact this, by rw [<- ints_app]; rfl⟩
theorem Without_s (n : Nat) (M : Nat) (al : Option Addr) (cl : Nat) (ls : List (List Int)) (aw : Option Addr) (cw : Nat) (w : List Int) (s : St) (hs : Wf s) (hn : 1125899906842624 <= n) (hL : RowsE s 4 al ls) (hW : IntsE s aw w) (hcw : aw = none -> cw = 0) (h32 : w.length <= 32) (hXr : Rises Try.prog X 46) (h4 : ls.length <= 400) : Spec Try.prog (tabK tabw) X (n + 1500) 22 [.agg ⟨[.int .i64 (M : Int), .slice al ls.length cl]⟩, .slice aw w.length cw] s (fun v A => ∃ a c TL, v = .agg ⟨[.int .i64 (M : Int), .slice a (kp false ls w).length c]⟩ /\ A = TL /\ TlO 38 a (kp false ls w).length c (kp false ls w) TL) := by
 refine enter bw22_at rfl hs ?_;unfold bw22;have hlen := hL.len;have hlenW := hW.len;have hrl9 := rsn_le w;refine rS (kO J (a_box J J J (fun b1 => (kO J (a_new J J (fun b2 => (Q0 (rS (kO J (Z5 J (by decide) (.next .here) J (kM J J (kG J J (a_inl J J bw48_at rfl ?_)))))))))))));unfold bw48;refine rS (kM J J (Q0 (rS (kM J J (kO J (W5 J J (fun s1 h1 => CloneI_g _ aw cw w s1 h1.wf (hW.ext hs h1.2.1) hcw (by omega)) (fun v1 A1 q1 => ?_)))))));obtain ⟨aG, cG, GC, rfl, hA8, hG0⟩ := q1;rw [hA8];refine kO J (a_riseU hXr cells_int hG0 rfl rfl (by omega) (fun GU hG => (kO J (a_new J J (fun b3 => (kZ J (a_st J J .here rfl rfl (Q0 (rS (kO J (a_fn J J (kM J J (Q0 (Y3 (endD1 J .nil (kZ J (a_againa J J (by decide) (.next (.app (.next .here))) J (by simp [eqL, eqV, eqA, kindEq, intEq_eq, U6 hL.spot, U6 hW.spot]) (kG J J (a_inl J J bw47_at rfl ?_)))))))))))))))))));unfold bw47;refine rS (kO J (a_box J J J (fun b4 => (kO J (a_new J J (fun b5 => (Q0 (rS (kM J J (Q0 (rQ (rS (kO J (Z2 J (kO J (Z1 J (.next .here) J (kO J (a_lenx J (by first | exact hL.spot | exact hW.spot | exact hG.spot) (kM J J (Q0 (Y1 ?_)))))))))))))))))))));refine Y5 (fun j e A => ∃ (k : Nat) (aU : Option Addr) (n9 cp : Nat) (UL : List Ob), e = [(1, .func (.func 70) ⟨[]⟩ ⟨[.pointer (some ⟨b3, 0, none⟩)]⟩), (2, .pointer (some ⟨b4, 0, none⟩)), (4, .pointer (some ⟨b5, 0, none⟩)), (5, .slice aU n9 cp), (9, .slice al ls.length cl), (10, .int .i64 (ls.length : Int)), (11, .int .i64 (k : Int))] /\ A = (UL ++ (.row b5 29 false ([.int .i64 0, .slice none 0 0]) :: (.row b4 29 false ([.int .i64 (M : Int), .slice al ls.length cl]) :: (.row b3 25 false ([.slice aG (rsn w).length cG]) :: (GU ++ (.row b2 29 false ([.int .i64 0, .slice none 0 0]) :: (.row b1 29 false ([.int .i64 (M : Int), .slice al ls.length cl]) :: []))))))) /\ j = ls.length - k /\ k <= ls.length /\ n9 = (kp false (ls.take k) w).length /\ TlO 38 aU n9 cp (kp false (ls.take k) w) UL) 700 562949953421312 281474976710656 ?_ (j := _) (env2 := _) (A2 := _) ?_ ?_ ?_ ?_ ⟨0, none, 0, 0, [], rfl, rfl, rfl, Nat.zero_le _, rfl, (.inl ⟨rfl, rfl, rfl, rfl, rfl⟩)⟩
 rotate_left
 ·omega
 ·omega
 ·exact (lc 1 J (lc 2 J (lc 4 J (lc 5 J (lc 9 J (lc 10 J (lc 11 J Less.nil)))))))
 ·exact (.q (.q (.q (.r (.q (.q .slnil))))))
 rintro n hn j _ _ ⟨k, aU, n9, cp, UL, rfl, rfl, rfl, hk, hn9, hU⟩;have hkt := kp_take (t := false) (ls := ls) (ws := w) (k := k);have hsp9 := hU.tlr.spot;refine rS (kO J (V5 J J (fun h6 => ?_) (fun h6 => ?_)))
 ·obtain ⟨q4, o4, y0, y1, y2, y3, ahL, hx, hat, i0, i1, i2, i3⟩ := hL.row4 (k := k) (by omega)
  have hat2 := hat;obtain ⟨d0, d1, d2, d3, _⟩ := hat2;refine Q0 (rQ (Y0 J (Q1 (W0 (rQ (Y1 (rS (kO J (a_iaA (j := k) ahL rfl rfl (by first | rfl | omega) (by first | decide | omega) (kO J (a_ldar J (by decide) (by assumption) J (kO J (a_new J J (fun b7 => (kZ J (V6 J J .here rfl rfl rfl rfl (Q0 (rS (kM J J (kO J (Z2 J (kO J (Z1 J .here rfl (kG J J (a_inl J J bw70_at rfl ?_)))))))))))))))))))))))));unfold bw70;refine rS (kM J J (Q0 (rS (kO J (Z1 J (.next (.app (.next (.next .here)))) J (kM J J (kO J (W5 J J (fun s1 h1 => BinarySearch_s _ aG cG (rsn w) y3 s1 h1.wf (by omega) (hG.rows (.cons _ (List.sublist_append_of_sublist_right (.cons _ (.cons _ (.cons _ (List.sublist_append_left _ _)))))) h1 (rsn_fit hW.fit) (by omega)) (rsn_inc _) (by omega)) (fun v1 A1 q1 => ?_)))))))));rcases q1 with ⟨hm9, ⟨r9, rfl⟩, rfl⟩ | ⟨hm9, ⟨r9, rfl⟩, rfl⟩
  ·have hin : y3 ∈ w := (rsn_mem _ _).1 hm9
   refine kM J J (kO J (Q2 J J (kO J (Q2 J J (kM J J (kM J J (Q0 (rS (kM J J (kO J (Z7 J (kM J J (Q0 (Y3 (endD1 J .nil (Q0 (Z0 J (Q1 (U1 (W0 (rI (kO J (V3 J J (by omega) (kM J J (Q0 (W0 ?_))))))))))))))))))))))))));exact ⟨rfl, _, _, _, (show ls.length - (k + 1) < ls.length - k by omega), (lc 1 J (lc 2 J (lc 4 J (lc 5 J (lc 9 J (lc 10 J (lc 11 J Less.nil))))))), (.cons _ (.r (.q (.q (.q (.r (.q (.q .slnil)))))))), ⟨k + 1, aU, n9, cp, UL, rfl, rfl, rfl, (by omega), (by rw [kp_no hx (show ¬ decide (y3 ∈ w) = false from by rw [decide_eq_true hin]; decide)]; exact hn9), (by rw [kp_no hx (show ¬ decide (y3 ∈ w) = false from by rw [decide_eq_true hin]; decide)]; exact hU)⟩⟩
  ·have hin : ¬ y3 ∈ w := fun q => hm9 ((rsn_mem _ _).2 q)
   refine kM J J (kO J (Q2 J J (kO J (Q2 J J (kM J J (kM J J (Q0 (rS (kM J J (kO J (Z7 J (kM J J (Q0 (Y3 (endD1 J .nil (Q0 (Y0 J (rI (kM J J (kO J (Z5 J (by decide) .here rfl (kO J (a_lit J J J (fun b8 => (kO J (a_appT (A1 := [_, _]) hU.tlr rfl rfl rfl (Src.own .here rfl (by simp)) (by decide) (by omega) (by omega) (fun b9 => (kM J J (Q0 (U1 (W0 ?_)))))))))))))))))))))))))))))));refine rI (kO J (V3 J J (by omega) (kM J J (Q0 (W0 ?_)))));exact ⟨rfl, _, _, _, (show ls.length - (k + 1) < ls.length - k by omega), (lc 1 J (lc 2 J (lc 4 J (lc 5 J (lc 9 J (lc 10 J (lc 11 J Less.nil))))))), (.q (.cons _ (.cons _ (.q (.q (.q (.r (.q (.q .slnil))))))))), ⟨k + 1, some ⟨b9, 0, none⟩, n9 + 1, OPEN, [.row b9 38 true (limC (kp false (ls.take (k + 1)) w))], rfl, (by rw [<- kl_step hx (decide_eq_false hin)]; rfl), rfl, (by omega), (by rw [kp_yes hx (decide_eq_false hin), List.length_append, hn9]; rfl), (.inr ⟨_, rfl, by omega, by rw [kp_yes hx (decide_eq_false hin), List.length_append, hn9]; rfl, rfl, rfl⟩)⟩⟩
 ·obtain rfl : k = ls.length := by omega
  rw [kp_whole] at hU hn9;subst hn9;refine Q0 (rQ (Z0 J (Q5 (Q3 (Q3 (Z3 (W0 (rS (kO J (Z2 J (kO J (Z1 J (.app (.next .here)) J (kM J J (kO J (Y7 J J (kZ J (V6 J J (.app .here) J J J J (Q0 (Y3 (endDc1 J (by decide) .nil (.app .here) J (kZ J (V6 J J (.app (.next (.next (.next (.app .here))))) J J J J (Q0 (Y3 ?_))))))))))))))))))))))));exact endcA J (by decide) (.r (.cons _ (.cons _ (.cons _ (List.sublist_append_of_sublist_right (.cons _ (.cons _ .slnil))))))) (.app (.next (.next (.next (.app .here))))) J ⟨aU, cp, UL, rfl, List.append_nil _, hU⟩
theorem clash_s (n : Nat) (M : Nat) (al : Option Addr) (cl : Nat) (ls : List (List Int)) (aw : Option Addr) (cw : Nat) (w : List Int) (s : St) (hs : Wf s) (hn : 4503599627370496 <= n) (hL : RowsE s 4 al ls) (hW : IntsE s aw w) (hcw : aw = none -> cw = 0) (h32 : w.length <= 32) (hXr : Rises Try.prog X 46) (h4 : ls.length <= 400) (hM : M <= 64) (hlm : lmB (M : Int) ls = true) : Spec Try.prog (tabK tabw) X (n + 7200) 44 [.agg ⟨[.int .i64 (M : Int), .slice al ls.length cl]⟩, .slice aw w.length cw] s (fun v A => (Uns (kp true ls w) (M + 1) /\ v = .bool true /\ A = []) ∨ (¬ Uns (kp true ls w) (M + 1) /\ v = .bool false /\ A = [])) := by
 refine enter bw44_at rfl hs ?_;unfold bw44;have hlen := hL.len;have hlenW := hW.len;have hrl9 := rsn_le w;have hlk := kp_lm (t := true) (ws := w) hlm;have hkl := kp_len (t := true) (ls := ls) (ws := w);have hfk := kp_fit (t := true) (ws := w) (fun r hr => tl_fit hL hM r (List.mem_append_left _ hr));refine rS (kO J (a_box J J J (fun b1 => (kM J J (Q0 (rS (kM J J (kG J J (a_inl J J bw48_at rfl ?_)))))))));unfold bw48;refine rS (kM J J (Q0 (rS (kM J J (kO J (W5 J J (fun s1 h1 => CloneI_g _ aw cw w s1 h1.wf (hW.ext hs h1.2.1) hcw (by omega)) (fun v1 A1 q1 => ?_)))))));obtain ⟨aG, cG, GC, rfl, hA8, hG0⟩ := q1;rw [hA8];refine kO J (a_riseU hXr cells_int hG0 rfl rfl (by omega) (fun GU hG => (kO J (a_new J J (fun b2 => (kZ J (a_st J J .here rfl rfl (Q0 (rS (kO J (a_fn J J (kM J J (Q0 (Y3 (endD1 J .nil (kO J (a_new J J (fun b3 => (kZ J (a_st J J .here rfl rfl (Q0 (rS (kO J (Z5 J (by decide) (.next (.next (.app .here))) J (kO J (a_fn J J (kG J J (a_inl J J bw47_at rfl ?_))))))))))))))))))))))))))));unfold bw47;refine rS (kO J (a_box J J J (fun b4 => (kO J (a_new J J (fun b5 => (Q0 (rS (kM J J (Q0 (rQ (rS (kO J (Z2 J (kO J (Z1 J (.next .here) J (kO J (a_lenx J (by first | exact hL.spot | exact hW.spot | exact hG.spot) (kM J J (Q0 (Y1 ?_)))))))))))))))))))));refine Y5 (fun j e A => ∃ (k : Nat) (aU : Option Addr) (n9 cp : Nat) (UL : List Ob), e = [(1, .func (.func 66) ⟨[]⟩ ⟨[.pointer (some ⟨b3, 0, none⟩)]⟩), (2, .pointer (some ⟨b4, 0, none⟩)), (4, .pointer (some ⟨b5, 0, none⟩)), (5, .slice aU n9 cp), (9, .slice al ls.length cl), (10, .int .i64 (ls.length : Int)), (11, .int .i64 (k : Int))] /\ A = (UL ++ (.row b5 29 false ([.int .i64 0, .slice none 0 0]) :: (.row b4 29 false ([.int .i64 (M : Int), .slice al ls.length cl]) :: (.row b3 84 false ([.func (.func 70) ⟨[]⟩ ⟨[.pointer (some ⟨b2, 0, none⟩)]⟩]) :: (.row b2 25 false ([.slice aG (rsn w).length cG]) :: (GU ++ (.row b1 29 false ([.int .i64 (M : Int), .slice al ls.length cl]) :: []))))))) /\ j = ls.length - k /\ k <= ls.length /\ n9 = (kp true (ls.take k) w).length /\ TlO 38 aU n9 cp (kp true (ls.take k) w) UL) 700 562949953421312 281474976710656 ?_ (j := _) (env2 := _) (A2 := _) ?_ ?_ ?_ ?_ ⟨0, none, 0, 0, [], rfl, rfl, rfl, Nat.zero_le _, rfl, (.inl ⟨rfl, rfl, rfl, rfl, rfl⟩)⟩
 rotate_left
 ·omega
 ·omega
 ·exact (lc 1 J (lc 2 J (lc 4 J (lc 5 J (lc 9 J (lc 10 J (lc 11 J Less.nil)))))))
 ·exact (.q (.q (.q (.q (.r (.q .slnil))))))
 rintro n hn j _ _ ⟨k, aU, n9, cp, UL, rfl, rfl, rfl, hk, hn9, hU⟩;have hkt := kp_take (t := true) (ls := ls) (ws := w) (k := k);have hsp9 := hU.tlr.spot;refine rS (kO J (V5 J J (fun h6 => ?_) (fun h6 => ?_)))
 ·obtain ⟨q4, o4, y0, y1, y2, y3, ahL, hx, hat, i0, i1, i2, i3⟩ := hL.row4 (k := k) (by omega)
  have hat2 := hat;obtain ⟨d0, d1, d2, d3, _⟩ := hat2;refine Q0 (rQ (Y0 J (Q1 (W0 (rQ (Y1 (rS (kO J (a_iaA (j := k) ahL rfl rfl (by first | rfl | omega) (by first | decide | omega) (kO J (a_ldar J (by decide) (by assumption) J (kO J (a_new J J (fun b7 => (kZ J (V6 J J .here rfl rfl rfl rfl (Q0 (rS (kM J J (kO J (Z2 J (kO J (Z1 J .here rfl (kG J J (a_inl J J bw66_at rfl ?_)))))))))))))))))))))))));unfold bw66;refine rS (kM J J (Q0 (rS (kO J (Z1 J (.next (.app (.next (.next .here)))) J (kM J J (kG J J (a_inl J J bw70_at rfl ?_))))))));unfold bw70;refine rS (kM J J (Q0 (rS (kO J (Z1 J (.next (.app (.next (.next (.next .here))))) J (kM J J (kO J (W5 J J (fun s1 h1 => BinarySearch_s _ aG cG (rsn w) y3 s1 h1.wf (by omega) (hG.rows (.cons _ (List.sublist_append_of_sublist_right (.cons _ (.cons _ (.cons _ (.cons _ (List.sublist_append_left _ _))))))) h1 (rsn_fit hW.fit) (by omega)) (rsn_inc _) (by omega)) (fun v1 A1 q1 => ?_)))))))));rcases q1 with ⟨hm9, ⟨r9, rfl⟩, rfl⟩ | ⟨hm9, ⟨r9, rfl⟩, rfl⟩
  ·have hin : y3 ∈ w := (rsn_mem _ _).1 hm9
   refine kM J J (kO J (Q2 J J (kO J (Q2 J J (kM J J (kM J J (Q0 (rS (kM J J (kO J (Z7 J (kM J J (Q0 (Y3 (endD1 J .nil (kO J (Z7 J (kM J J (Q0 (Y3 (endD1 J .nil (Q0 (Y0 J (rI (kM J J (kO J (Z5 J (by decide) .here rfl (kO J (a_lit J J J (fun b8 => ?_))))))))))))))))))))))))))))));refine kO J (a_appT (A1 := [_, _]) hU.tlr rfl rfl rfl (Src.own .here rfl (by simp)) (by decide) (by omega) (by omega) (fun b9 => (kM J J (Q0 (U1 (W0 (rI (kO J (V3 J J (by omega) (kM J J (Q0 (W0 ?_))))))))))));exact ⟨rfl, _, _, _, (show ls.length - (k + 1) < ls.length - k by omega), (lc 1 J (lc 2 J (lc 4 J (lc 5 J (lc 9 J (lc 10 J (lc 11 J Less.nil))))))), (.q (.cons _ (.cons _ (.q (.q (.q (.q (.r (.q .slnil))))))))), ⟨k + 1, some ⟨b9, 0, none⟩, n9 + 1, OPEN, [.row b9 38 true (limC (kp true (ls.take (k + 1)) w))], rfl, (by rw [<- kl_step hx (decide_eq_true hin)]; rfl), rfl, (by omega), (by rw [kp_yes hx (decide_eq_true hin), List.length_append, hn9]; rfl), (.inr ⟨_, rfl, by omega, by rw [kp_yes hx (decide_eq_true hin), List.length_append, hn9]; rfl, rfl, rfl⟩)⟩⟩
  ·have hin : ¬ y3 ∈ w := fun q => hm9 ((rsn_mem _ _).2 q)
   refine kM J J (kO J (Q2 J J (kO J (Q2 J J (kM J J (kM J J (Q0 (rS (kM J J (kO J (Z7 J (kM J J (Q0 (Y3 (endD1 J .nil (kO J (Z7 J (kM J J (Q0 (Y3 (endD1 J .nil (Q0 (Z0 J (Q1 (U1 (W0 (rI ?_)))))))))))))))))))))))))));refine kO J (V3 J J (by omega) (kM J J (Q0 (W0 ?_))));exact ⟨rfl, _, _, _, (show ls.length - (k + 1) < ls.length - k by omega), (lc 1 J (lc 2 J (lc 4 J (lc 5 J (lc 9 J (lc 10 J (lc 11 J Less.nil))))))), (.cons _ (.r (.q (.q (.q (.q (.r (.q .slnil)))))))), ⟨k + 1, aU, n9, cp, UL, rfl, rfl, rfl, (by omega), (by rw [kp_no hx (show ¬ decide (y3 ∈ w) = true from by rw [decide_eq_false hin]; decide)]; exact hn9), (by rw [kp_no hx (show ¬ decide (y3 ∈ w) = true from by rw [decide_eq_false hin]; decide)]; exact hU)⟩⟩
 ·obtain rfl : k = ls.length := by omega
  rw [kp_whole] at hU hn9;subst hn9;refine Q0 (rQ (Z0 J (Q5 (Q3 (Q3 (Z3 (W0 (rS (kO J (Z2 J (kO J (Z1 J (.app (.next .here)) J (kM J J (kO J (Y7 J J (kZ J (V6 J J (.app .here) J J J J (Q0 (Y3 (endDc1 J (by decide) .nil (.app .here) J (kO J (W5 J J (fun s1 h1 => sound_s _ M aU cp (kp true ls w) s1 h1.wf (by omega) (hU.tlr.ok.1.rows (List.sublist_append_left _ _) h1 (lg_of hlk) hM (by omega) hfk) hM (by omega) hlk (sb_of hlk (by omega) hM)) (fun v1 A1 q1 => ?_)))))))))))))))))))))));rcases q1 with ⟨hu, rfl, rfl⟩ | ⟨hu, rfl, rfl⟩
  ·have hun : ¬ Uns (kp true ls w) (M + 1) := fun q => (by obtain ⟨r, hr, e⟩ := hu; exact q r hr e)
   refine kO J (Z7 J (kM J J (Q0 (Y3 ?_))));exact end1 J (.inr ⟨hun, rfl, rfl⟩)
  ·have hun : Uns (kp true ls w) (M + 1) := hu
   refine kO J (Z7 J (kM J J (Q0 (Y3 ?_))));exact end1 J (.inl ⟨hun, rfl, rfl⟩)
theorem someOf_s (n : Nat) (aw : Option Addr) (cw : Nat) (w : List Int) (a2 : Option Addr) (c2 : Nat) (S : List Int) (s : St) (hs : Wf s) (hn : 844424930131968 <= n) (hW : IntsE s aw w) (hS : IntsE s a2 S) (hinc : w.Pairwise (· < ·)) (hincS : S.Pairwise (· < ·)) (hsub : ∀ y ∈ w, y ∈ S) (h32 : S.length <= 32) : Spec Try.prog (tabK tabw) X (n + 900) 45 [.slice aw w.length cw, .slice a2 S.length c2] s (fun v A => v = .bool true /\ A = []) := by
 refine enter bw45_at rfl hs ?_;unfold bw45;have hlen := hW.len;have hlen2 := hS.len;refine rS (kM J J (Q0 (rQ (rS (kM J J (kO J (a_lenx J hW.spot (kM J J (Q0 (Y1 (Y5 (fun j e A => ∃ (k : Nat), e = [(0, .slice aw w.length cw), (1, .slice a2 S.length c2), (9, .slice aw w.length cw), (10, .int .i64 (w.length : Int)), (11, .int .i64 (k : Int))] /\ A = [] /\ j = w.length - k /\ k <= w.length) 700 281474976710656 281474976710656 ?_ (j := _) (env2 := _) (A2 := _) ?_ ?_ ?_ ?_ ⟨0, rfl, rfl, rfl, Nat.zero_le _⟩)))))))))))
 rotate_left
 ·omega
 ·omega
 ·exact (lc 0 J (lc 1 J (lc 9 J (lc 10 J (lc 11 J Less.nil)))))
 ·exact .slnil
 rintro n hn j _ _ ⟨k, rfl, rfl, rfl, hk⟩;refine rS (kO J (V5 J J (fun h1 => ?_) (fun h1 => ?_)))
 ·refine Q0 (rQ (Y0 J (Q1 (W0 (rQ (Y1 (rS (kM J J (kO J (V7 (j := k) hW rfl rfl (by omega) (by first | rfl | omega) (by omega) (fun _ _ a2 => (kO J (Q7 J (hW.at a2 (by omega)) (kM J J (kM J J (Q0 (rQ (rS (kM J J (kO J (a_gtr J J (fun h3 => ?_) (fun h3 => ?_))))))))))))))))))))))
  ·refine kM J J (kG J J (W3 J (kG J J (W3 J (kG J J (a_sub J J (by omega) (kG J J (V7 (j := (k - 1)) hW rfl rfl (by omega) (by first | rfl | omega) (by omega) (fun _ _ a4 => (kG J J (Q7 J (hW.at a4 (by omega)) (kG J J (W3 J (kG J J (a_geq J J (fun h5 => ?_) (fun h5 => ?_))))))))))))))))
   ·exfalso; have := inc_lt hinc (show k - 1 < k by omega) (by omega); omega
   ·refine kO J (V2 J J J (Q0 (Z0 J (Q1 (W0 (rS (kM J J (kM J J (kO J (W5 J J (fun s1 h1 => BinarySearch_s _ _ _ S (w.getD k 0) s1 h1.wf (by omega) (hS.ext hs h1.2.1) hincS h32) (fun v1 A1 q1 => ?_)))))))))))
    rcases q1 with ⟨hm9, ⟨r9, rfl⟩, rfl⟩ | ⟨hm9, ⟨r9, rfl⟩, rfl⟩
    ·refine kM J J (kO J (Q2 J J (kO J (Q2 J J (kM J J (kM J J (Q0 (rS (kM J J (kO J (Z7 J (Q0 (Z0 J (Q1 (U1 (W0 (rI (kO J (V3 J J (by omega) (kM J J (Q0 (W0 ?_))))))))))))))))))))))
     exact ⟨rfl, _, _, _, (show w.length - (k + 1) < w.length - k by omega), (lc 0 J (lc 1 J (lc 9 J (lc 10 J (lc 11 J Less.nil))))), .slnil, ⟨k + 1, rfl, rfl, rfl, by omega⟩⟩
    ·exact absurd (hsub _ (get_mem (by omega))) hm9
  ·refine kM J J (U0 J J (U0 J J (U0 J J (U0 J J (U0 J J (U0 J J (U0 J J (kO J (V1 J J J (Q0 (Z0 J (Q1 (W0 (rS (kM J J (kM J J (kO J (W5 J J (fun s1 h1 => BinarySearch_s _ _ _ S (w.getD k 0) s1 h1.wf (by omega) (hS.ext hs h1.2.1) hincS h32) (fun v1 A1 q1 => ?_)))))))))))))))))))
   rcases q1 with ⟨hm9, ⟨r9, rfl⟩, rfl⟩ | ⟨hm9, ⟨r9, rfl⟩, rfl⟩
   ·refine kM J J (kO J (Q2 J J (kO J (Q2 J J (kM J J (kM J J (Q0 (rS (kM J J (kO J (Z7 J (Q0 (Z0 J (Q1 (U1 (W0 (rI (kO J (V3 J J (by omega) (kM J J (Q0 (W0 ?_))))))))))))))))))))))
    exact ⟨rfl, _, _, _, (show w.length - (k + 1) < w.length - k by omega), (lc 0 J (lc 1 J (lc 9 J (lc 10 J (lc 11 J Less.nil))))), .slnil, ⟨k + 1, rfl, rfl, rfl, by omega⟩⟩
   ·exact absurd (hsub _ (get_mem (by omega))) hm9
 ·refine Q0 (rQ (Z0 J (Q5 (Q3 (Q3 (Z3 (W0 (rS (kM J J (Q0 (Y3 ?_)))))))))))
  exact end1 J ⟨rfl, rfl⟩
theorem Conflict_s (n : Nat) (M : Nat) (al : Option Addr) (cl : Nat) (ls : List (List Int)) (s : St) (hs : Wf s) (hn : 6192449487634432 <= n) (hL : RowsE s 4 al ls) (hXr : Rises Try.prog X 46) (h20 : ls.length <= 32) (hM : M <= 64) (hlm : lmB (M : Int) ls = true) (hsys : sysE (M : Int) ls = 0) : Spec Try.prog (tabK tabw) X (n + 8200) 18 [.agg ⟨[.int .i64 (M : Int), .slice al ls.length cl]⟩] s (fun v A => (¬ Uns ls (M + 1) /\ v = .tuple #[.slice none 0 0, .int .i64 3] /\ A = []) ∨ (Uns ls (M + 1) /\ ∃ b9 c9 op K z, v = .tuple #[.slice (some ⟨b9, 0, none⟩) K.length c9, .int .i64 0] /\ A = [.row b9 3 op (ints K ++ z)] /\ CfI ls M K 0 /\ ((c9 = OPEN /\ op = true) ∨ (c9 < OPEN /\ K.length <= c9)) /\ K.length <= 32)) := by
 refine enter bw18_at rfl hs ?_;unfold bw18;have hlen := hL.len;have hrs9 := rsn_le (srcs ls);rw [srcs_len] at hrs9;refine rS (kO J (a_box J J J (fun b1 => (kM J J (kM J J (Q0 (rQ (rS (kO J (Z5 J (by decide) .here rfl (kO J (a_callV J J (fun s1 h1 => Check_s _ _ _ _ _ s1 h1.wf (by omega) (hL.ext hs h1.2.1)) (kM J J (Q0 (rS (kM J J (kO J (Y4 J J (fun h2 => ?_) (fun h2 => ?_)))))))))))))))))))
 ·exact absurd hsys h2
 ·refine Q0 (Z0 J (Q1 (W0 (rQ (rS (kO J (Z5 J (by decide) .here rfl (kO J (W5 J J (fun s1 h1 => sound_s _ M al cl ls s1 h1.wf (by omega) (hL.ext hs h1.2.1) hM (by omega) hlm (sb_of hlm (by omega) hM)) (fun v1 A1 q1 => ?_))))))))))
  rcases q1 with ⟨hu, rfl, rfl⟩ | ⟨hu, rfl, rfl⟩
  ·have hun : ¬ Uns ls (M + 1) := fun q => (by obtain ⟨r, hr, e⟩ := hu; exact q r hr e)
   refine Q0 (Y0 J (rS (kM J J (kM J J (Q0 (Y3 (U3 ?_)))))));exact end2 J J (.inl ⟨hun, rfl, rfl⟩)
  ·have hun : Uns ls (M + 1) := hu
   refine Q0 (Z0 J (Q1 (W0 (rS (kO J (Z5 J (by decide) .here rfl (kO J (W5 J J (fun s1 h1 => Sources_s _ M al cl ls s1 h1.wf (by omega) (hL.ext hs h1.2.1) hXr (by omega)) (fun v1 A1 q1 => ?_)))))))));obtain ⟨bS3, cS9, zS, rfl, hcS1, hcS2, rfl⟩ := q1;refine kM J J (Q0 (rQ (rS (kM J J (kO J (a_len J (kO J (a_sub J J (by omega) (kM J J (Q0 (Y1 ?_)))))))))));refine Y5 (fun j e A => ∃ (b9 c9 i9 : Nat) (op : Bool) (K : List Int) (z : List Value), e = [(1, .pointer (some ⟨b1, 0, none⟩)), (5, .slice (some ⟨b9, 0, none⟩) K.length c9), (6, .int .i64 ((i9 : Int) - 1))] /\ A = (.row b9 3 op (ints K ++ z) :: (.row b1 29 false ([.int .i64 (M : Int), .slice al ls.length cl]) :: [])) /\ j = i9 + 1 /\ CfI ls M K i9 /\ ((c9 = OPEN /\ op = true) ∨ (c9 < OPEN /\ K.length <= c9)) /\ K.length <= 32) 7800 5066549580791808 281474976710656 ?_ (j := _) (env2 := _) (A2 := _) ?_ ?_ ?_ ?_ ⟨bS3, cS9, (rsn (srcs ls)).length, false, rsn (srcs ls), zS, rfl, rfl, rfl, (CfI.start hun), (.inr ⟨hcS1, hcS2⟩), (by omega)⟩
   rotate_left
   ·omega
   ·omega
   ·exact (lc 1 J (lc 5 J (lc 6 J Less.nil)))
   ·exact (.q (.q .slnil))
   rintro n hn j _ _ ⟨b9, c9, i9, op, K, z, rfl, rfl, rfl, hCf, hc9, hK32⟩;have hle9 := hCf.le;have hKf : ∀ x ∈ K, -9223372036854775808 <= x /\ x < 9223372036854775808 := fun x hx => srcs_fit hlm x (hCf.sub x hx)
   refine rQ (rS (kM J J (kO J (a_geq J J (fun h4 => ?_) (fun h4 => ?_)))))
   ·obtain ⟨i, rfl⟩ : ∃ i, i9 = i + 1 := ⟨i9 - 1, by omega⟩
    have hde9 := de_len (l := K) (i := i) (by omega);rw [show (((i + 1 : Nat) : Int) - 1) = (i : Int) from by omega];refine Q0 (Y0 J (Q1 (W0 (rQ (Y1 (rS (kM J J (kM J J (kO J (W5 J J (fun s1 h1 => except_s _ _ _ K i s1 h1.wf (IntsE.ownP (h1.own .here) hKf (by omega)) (by omega) (by omega)) (fun v1 A1 q1 => ?_)))))))))));obtain ⟨be5, rfl, rfl⟩ := q1;refine kM J J (Q0 (rS (kO J (Z5 J (by decide) (.next (.next .here)) J (kM J J (kO J (W5 J J (fun s1 h1 => clash_s _ M al cl ls _ _ (de K i) s1 h1.wf (by omega) (hL.ext hs h1.2.1) (IntsE.ownP (h1.own .here) (fun x hx => hKf x (de_mem hx)) (by omega)) (fun q => by cases q) (by omega) hXr (by omega) hM hlm) (fun v1 A1 q1 => ?_))))))));rcases q1 with ⟨hun9, rfl, rfl⟩ | ⟨hun9, rfl, rfl⟩
    ·refine Q0 (Y0 J (rI (kM J J (kM J J (Q0 (U1 (W0 (rI (kM J J (kO J (a_sub J J (by omega) (kM J J (Q0 (W0 ?_))))))))))))))
     exact ⟨rfl, _, _, _, (show i + 1 < i + 1 + 1 by omega), (lc 1 J (lc 5 J (lc 6 J Less.nil))), (.q (.cons _ (.q .slnil))), ⟨be5, OPEN, i, true, de K i, [.int .i64 0], rfl, rfl, rfl, (hCf.less hlm (by omega) hM hun9), (.inl ⟨rfl, rfl⟩), (by omega)⟩⟩
    ·refine Q0 (Z0 J (Q1 (U1 (W0 (rI (kM J J (kO J (a_sub J J (by omega) (kM J J (Q0 (W0 ?_)))))))))))
     exact ⟨rfl, _, _, _, (show i + 1 < i + 1 + 1 by omega), (lc 1 J (lc 5 J (lc 6 J Less.nil))), (.cons _ (.q (.q .slnil))), ⟨b9, c9, i, op, K, z, rfl, rfl, rfl, (hCf.keep hun9), hc9, hK32⟩⟩
   ·obtain rfl : i9 = 0 := by omega
    refine Q0 (Z0 J (Q5 (Q3 (Q3 (Z3 (W0 (rS (kM J J (kM J J (kM J J (Q0 (Y3 ?_))))))))))));exact end2A J J (.q (.cons _ .slnil)) (.inr ⟨hun, b9, c9, op, K, z, rfl, rfl, hCf, hc9, hK32⟩)
theorem CheckConflict_k (n : Nat) (M : Nat) (al : Option Addr) (cl : Nat) (ls : List (List Int)) (aw : Option Addr) (cw : Nat) (K : List Int) (s : St) (hs : Wf s) (hn : 6192449487634432 <= n) (hL : RowsE s 4 al ls) (hW : IntsE s aw K) (hcw : aw = none -> cw = 0) (hK32 : K.length <= 32) (hCf : CfI ls M K 0) (hXr : Rises Try.prog X 46) (h20 : ls.length <= 32) (hM : M <= 64) (hlm : lmB (M : Int) ls = true) (hsys : sysE (M : Int) ls = 0) : Spec Try.prog (tabK tabw) X (n + 8200) 19 [.agg ⟨[.int .i64 (M : Int), .slice al ls.length cl]⟩, .slice aw K.length cw] s (fun v A => v = .int .i64 0 /\ A = []) := by
 refine enter bw19_at rfl hs ?_;unfold bw19;have hlen := hL.len;have hlenW := hW.len;have hrs9 := rsn_le (srcs ls);rw [srcs_len] at hrs9;refine rS (kO J (a_box J J J (fun b1 => (kM J J (Q0 (rQ (rS (kO J (Z5 J (by decide) .here rfl (kO J (a_callV J J (fun s1 h1 => Check_s _ _ _ _ _ s1 h1.wf (by omega) (hL.ext hs h1.2.1)) (kM J J (Q0 (rS (kM J J (kO J (Y4 J J (fun h2 => ?_) (fun h2 => ?_))))))))))))))))))
 ·exact absurd hsys h2
 ·refine Q0 (Z0 J (Q1 (W0 (rQ (rS (kM J J (kO J (Z5 J (by decide) .here rfl (kO J (W5 J J (fun s1 h1 => Sources_s _ M al cl ls s1 h1.wf (by omega) (hL.ext hs h1.2.1) hXr (by omega)) (fun v1 A1 q1 => ?_)))))))))))
  obtain ⟨bS3, cS9, zS, rfl, hcS1, hcS2, rfl⟩ := q1;refine kO J (a_callV J J (fun s1 h1 => someOf_s _ aw cw K _ _ (rsn (srcs ls)) s1 h1.wf (by omega) (hW.ext hs h1.2.1) (IntsE.ownP (h1.own .here) (rsn_fit (srcs_fit hlm)) (by omega)) hCf.inc (rsn_inc _) (fun y hy => (rsn_mem _ _).2 (hCf.sub y hy)) (by omega)) (kO J (Z7 J (kM J J (kG J J (Z5 J (by decide) (.next .here) J (kG J J (W3 J (kG J J (W5 J J (fun s1 h1 => clash_s _ M al cl ls aw cw K s1 h1.wf (by omega) (hL.ext hs h1.2.1) (hW.ext hs h1.2.1) hcw hK32 hXr (by omega) hM hlm) (fun v1 A1 q1 => ?_)))))))))));rcases q1 with ⟨hun9, rfl, rfl⟩ | ⟨hun9, rfl, rfl⟩
  ·refine kG J J (Z7 J (kO J (V1 J J J (Q0 (Z0 J (Q1 (W0 (rQ (rS (kM J J (kO J (a_lenx J hW.spot (kM J J (Q0 (Y1 (Y5 (fun j e A => ∃ (k : Nat), e = [(1, .slice aw K.length cw), (2, .pointer (some ⟨b1, 0, none⟩)), (24, .int .i64 (K.length : Int)), (25, .int .i64 (k : Int))] /\ A = (.row b1 29 false ([.int .i64 (M : Int), .slice al ls.length cl]) :: []) /\ j = K.length - k /\ k <= K.length) 7800 5066549580791808 281474976710656 ?_ (j := _) (env2 := _) (A2 := _) ?_ ?_ ?_ ?_ ⟨0, rfl, rfl, rfl, Nat.zero_le _⟩))))))))))))))))
   rotate_left
   ·omega
   ·omega
   ·exact (lc 1 J (lc 2 J (lc 24 J (lc 25 J Less.nil))))
   ·exact (.cons _ (.q .slnil))
   rintro n hn j _ _ ⟨k, rfl, rfl, rfl, hk⟩;refine rS (kO J (V5 J J (fun h4 => ?_) (fun h4 => ?_)))
   ·have hde9 := de_len (l := K) (i := k) (by omega)
    refine Q0 (rQ (Y0 J (Q1 (W0 (rQ (Y1 (rS (kM J J (kM J J (Q0 (rS (kO J (Z5 J (by decide) .here rfl (kM J J (kM J J (kO J (W5 J J (fun s1 h1 => except_s _ aw cw K k s1 h1.wf (hW.ext hs h1.2.1) (by omega) (by omega)) (fun v1 A1 q1 => ?_))))))))))))))))));obtain ⟨be5, rfl, rfl⟩ := q1;refine kZ J (a_againa J J (by decide) (.next .here) J (by simp [eqL, eqV, eqA, kindEq, intEq_eq, U6 hL.spot, U6 hW.spot]) (kO J (W5 J J (fun s1 h1 => clash_s _ M al cl ls _ _ (de K k) s1 h1.wf (by omega) (hL.ext hs h1.2.1) (IntsE.ownP (h1.own .here) (fun x hx => hW.fit x (de_mem hx)) (by omega)) (fun q => by cases q) (by omega) hXr (by omega) hM hlm) (fun v1 A1 q1 => ?_))));rcases q1 with ⟨hun9, rfl, rfl⟩ | ⟨hun9, rfl, rfl⟩
    ·exact absurd hun9 (hCf.no k (Nat.zero_le _) (by omega))
    ·refine Q0 (Z0 J (Q1 (U1 (W0 (rI (kO J (V3 J J (by omega) (kM J J (Q0 (W0 ?_))))))))))
     exact ⟨rfl, _, _, _, (show K.length - (k + 1) < K.length - k by omega), (lc 1 J (lc 2 J (lc 24 J (lc 25 J Less.nil)))), (.cons _ (.q .slnil)), ⟨k + 1, rfl, rfl, rfl, by omega⟩⟩
   ·refine Q0 (rQ (Z0 J (Q5 (Q3 (Q3 (Z3 (W0 (rS (kM J J (Q0 (Y3 ?_)))))))))))
    exact end1 J ⟨rfl, rfl⟩
  ·exact absurd hCf.un hun9
end
theorem known_or {P : Program} {C : Nat -> (CF -> Bool) -> Bool} {Y : FuncId -> List Value -> St -> (Value -> St -> Bool) -> Bool} {g : Nat} (n : Nat) (s : St) (hs : Wf s) : Spec P C (orX (knownX g) Y) n g [] s (fun v A => v = .bool true /\ A = []) := by
 intro k hk;refine callX ?_;show (knownX g g [] s k || Y g [] s k) = true;have h1 : knownX g g [] s k = true := by
  unfold knownX;rw [hk _ s ⟨[], Hld.start hs, rfl, rfl⟩, show Nat.beq g g = true from by rw [Nat.beq_eq]]; rfl
 rw [h1]; rfl
theorem ints_getP {S : List Int} {z : List Value} {k : Nat} (h : k < S.length) : (ints S ++ z)[0 + k * 1]? = some (.int .i64 (S.getD k 0)) := by
 rw [Nat.zero_add, Nat.mul_one, List.getElem?_append_left (by rw [ints_len]; exact h)];unfold ints;rw [List.getElem?_map, List.getD_eq_getElem?_getD, List.getElem?_eq_getElem h]; rfl
theorem IntsE.ownAt {s : St} {b e : Nat} {op : Bool} {S : List Int} {z : List Value} {k : Nat} (h : Obj s b e op (ints S ++ z)) (hk : k < S.length) (hf : ∀ x ∈ S, -9223372036854775808 <= x /\ x < 9223372036854775808) : IntsE s (some ⟨b, k, none⟩) [S.getD k 0] :=
 ⟨fun c hc => by cases hc; rfl, fun _ => ⟨b, k, rfl⟩, fun c o hc => by
  cases hc;exact h.ats (fun j hj => by
   have hj : j < 1 := hj;obtain rfl : j = 0 := by omega
   have := ints_getP (z := z) hk;rw [Nat.zero_add, Nat.mul_one] at this;exact this), fun x hx => by rw [List.mem_singleton.1 hx]; exact hf _ (get_mem hk), by show 1 < 140737488355328; decide⟩
def oth (K S : List Int) (k : Nat) : List Int := (S.take k).filter (fun y => !decide (y ∈ K))
theorem oth_yes {K S : List Int} {k : Nat} (hk : k < S.length) (h : ¬ S.getD k 0 ∈ K) : oth K S (k + 1) = oth K S k ++ [S.getD k 0] := by
 unfold oth;have e : S[k]? = some (S.getD k 0) := by rw [List.getD_eq_getElem?_getD, List.getElem?_eq_getElem hk]; rfl
 rw [List.take_add_one, e, List.filter_append]
 congr 1
 show List.filter _ [_] = _;rw [List.filter_cons_of_pos (by simpa using h)]; rfl
theorem oth_no {K S : List Int} {k : Nat} (hk : k < S.length) (h : S.getD k 0 ∈ K) : oth K S (k + 1) = oth K S k := by
 unfold oth;have e : S[k]? = some (S.getD k 0) := by rw [List.getD_eq_getElem?_getD, List.getElem?_eq_getElem hk]; rfl
 rw [List.take_add_one, e, List.filter_append];show _ ++ List.filter _ [_] = _;rw [List.filter_cons_of_neg (by simpa using h), List.filter_nil, List.append_nil]
theorem oth_len {K S : List Int} {k : Nat} : (oth K S k).length <= k := Nat.le_trans (List.length_filter_le _ _) (by rw [List.length_take]; omega)
theorem oth_all {K S : List Int} (y : Int) : y ∈ oth K S S.length ↔ y ∈ S /\ ¬ y ∈ K := by
 unfold oth;rw [List.take_length, List.mem_filter]; simp
theorem IlR.ncl {TT : Nat} {a : Option Addr} {n c : Nat} {l : List Int} {TL : List Ob} (h : IlR TT a n c l TL) : a = none -> c = 0 := fun e => by
 rcases h with ⟨_, _, h, _⟩ | ⟨b, op, q, _⟩
 ·exact h
 ·rw [e] at q; cases q
theorem a_slLH {P : Program} {C : Nat -> (CF -> Bool) -> Bool} {X : FuncId -> List Value -> St -> (Value -> St -> Bool) -> Bool} {s0 : St} {n nt b : Nat} {env : List (Nat × Value)} {A : List Ob} {R : Value -> List Ob -> Prop} {x lo hi : Ev.X} {k m c : Nat} {op : Bool} {l9 : List Value} (hc : (c = OPEN /\ op = true) ∨ (c < OPEN /\ m <= c)) (hx : xv env x = some (.slice (some ⟨b, 0, none⟩) m c)) (h_lo : xv env lo = some (.int .i64 (k : Int))) (h_hi : xv env hi = some (.int .i64 ((k : Int) + 1))) (ho : Own A b 3 op l9) (hk : k < m) (hm : m <= l9.length)
 (hR : ∀ c', R (.slice (some ⟨b, k, none⟩) 1 c') A) : OpA P C X s0 n nt (.slc 3 1 x (some lo) (some hi) none) env A R := by
 have e1 : k + 1 - k = 1 := by omega
 rcases hc with ⟨rfl, rfl⟩ | ⟨h1, h2⟩
 ·refine a_sl1B (l := k) (h := k + 1) hx h_lo h_hi ho (by omega) (by omega) ?_
  rw [e1, Nat.zero_add, Nat.mul_one]; exact hR _
 ·refine .mk fun s hs T hT q hq => ?_
  refine Y6 hT (k := fun x => valOK T (some lo) (fun lo => valOK T (some hi) (fun hi => valOK T none (fun mx => slcK s 3 1 x lo hi mx (vK s q))))) hx ?_;refine Y6 hT (k := fun v => valOK T (some hi) (fun hi => valOK T none (fun mx => slcK s 3 1 _ (some v) hi mx (vK s q)))) h_lo ?_;refine Y6 hT (k := fun v => slcK s 3 1 _ _ (some v) none (vK s q)) h_hi ?_;unfold slcK;have key : evSlc (rowOf s) 3 1 (.slice (some ⟨b, 0, none⟩) m c) (some (.int .i64 (k : Int))) (some (.int .i64 ((k : Int) + 1))) none = some (.slice (some ⟨b, 0 + k * 1, none⟩) (k + 1 - k) (c - k)) := by
   show sel (Nat.ble OPEN c) _ (sel (Nat.ble (k + 1) c) (sel (Nat.ble k (k + 1)) (some (Value.slice (some ⟨b, sel (Nat.beq c k) 0 (0 + k * 1), none⟩) (k + 1 - k) (c - k))) none) none) = _;rw [show Nat.ble OPEN c = false from by
    cases hb : Nat.ble OPEN c with
    | false => rfl
    | true => rw [Nat.ble_eq] at hb; omega, show Nat.ble (k + 1) c = true from by rw [Nat.ble_eq]; omega, show Nat.ble k (k + 1) = true from by rw [Nat.ble_eq]; omega, show Nat.beq c k = false from beqF (by omega)]
   rfl
  rw [key];show forceV (Value.slice (some ⟨b, 0 + k * 1, none⟩) (k + 1 - k) (c - k)) (vK s q) = true;rw [forceV_eq];refine hq _ _ ⟨A, hs, ?_⟩;rw [e1, Nat.zero_add, Nat.mul_one]; exact hR _
section
variable {X : FuncId -> List Value -> St -> (Value -> St -> Bool) -> Bool}
set_option maxHeartbeats 2000000 in
set_option maxRecDepth 100000 in
theorem BoundConflicts_s (n : Nat) (r0 : Int) (ar : Option Addr) (cr : Nat) (rs : List (List Int)) (a1 : Option Addr) (c1 : Nat) (l1 : List Int) (s : St) (hs : Wf s) (hn : 16888498602639360 <= n) (hR : RowsE s 4 ar rs) (hI1 : IntsE s a1 l1) : Spec Try.prog (tabK tabw) (orX (knownX 12) (riseX Try.prog 46)) (n + 13500) 6 [.agg ⟨[.int .i64 r0, .slice ar rs.length cr]⟩, .slice a1 l1.length c1] s (fun v A => v = .bool true /\ A = []) := by
 refine enter bw6_at rfl hs ?_;unfold bw6;have hlen := hR.len;have hlen1 := hI1.len;have hXr : Rises Try.prog (orX (knownX 12) (riseX Try.prog 46)) 46 := rises_or;refine rS (kO J (a_box J J J (fun b1 => (kM J J (Q0 (rS (kO J (Z5 J (by decide) .here rfl (kO J (W5 J J (fun s1 h1 => made_s _ r0 ar cr rs s1 h1.wf (by omega) (hR.ext hs h1.2.1)) (fun v1 A1 q1 => ?_)))))))))));obtain ⟨aT, cT, TL, rfl, hA9, hTR⟩ := q1;rw [hA9];obtain ⟨hM1, hM6, hMe⟩ := mdM_bd (r0 := r0);generalize mdM r0 = M at *;have hlm := mdL_lm (rs := rs) hM1 hM6;have hlw := mdL_w (rs := rs) hM1 hM6;have hft := mdL_fit (rs := rs) hM1 hM6;have hsys := mdL_sys (rs := rs) hM1 hM6;have hl20 := mdL_len (M := M) (rs := rs);generalize mdL M rs = ls at *;obtain ⟨hTL, _, hcl⟩ := hTR.ok;have hLg := lg_of hlm;have h400 : ls.length <= 400 := by omega
 have hM : M <= 64 := by omega
 refine kO J (a_new J J (fun b2 => (kZ J (V6 J J .here rfl rfl rfl rfl (Q0 (rS (kO J (Z5 J (by decide) .here rfl (kO J (W5 J J (fun s1 h1 => Conflict_s _ M _ _ ls s1 h1.wf (by omega) (hTL.rows (.cons _ (List.sublist_append_left _ _)) h1 hLg (by omega) (by omega) hft) hXr (by omega) hM hlm hsys) (fun v1 A1 q1 => ?_)))))))))));rcases q1 with ⟨hcu, rfl, rfl⟩ | ⟨hcu, q1⟩
 ·have hun : ¬ Uns ls (M + 1) := hcu
  refine kM J J (kO J (Q2 J J (kO J (Q2 J J (kM J J (kM J J (Q0 (rS (kO J (Z5 J (by decide) .here rfl (kM J J (kO J (W5 J J (fun s1 h1 => Point_s _ (M : Int) _ _ ls _ _ l1 s1 h1.wf (by omega) (hTL.rows (.cons _ (List.sublist_append_left _ _)) h1 hLg (by omega) (by omega) hft) (hI1.ext hs h1.2.1)) (fun v1 A1 q1 => ?_))))))))))))));rcases q1 with ⟨hp, rfl, rfl⟩ | ⟨hp, hpu, rfl, rfl⟩ | ⟨hp, hpu, q1⟩
  ·exact absurd hsys hp
  ·exact absurd hpu hun
  ·obtain ⟨bx4, opp, cpp, Dp, rfl, rfl, hDT⟩ := q1
   rw [show ((M : Int).toNat) = M from rfl, List.singleton_append];refine kM J J (kO J (Q2 J J (kO J (Q2 J J (kM J J (kM J J (Q0 (rQ (rS (kM J J (kO J (a_eql J J (fun _ => (Q0 (Y0 J (rS (kM J J (kO J (a_eql J J (fun _ => (kM J J (kG J J (a_callV J J (fun s1 h1 => known_or _ s1 h1.wf) (kO J (V2 J J J (kM J J (Q0 (Y3 (U3 ?_)))))))))) (fun h => absurd h (by decide))))))))) (fun h => absurd h (by decide))))))))))))));exact end1 J ⟨rfl, rfl⟩
 ·obtain ⟨b93, c9, op9, K, z9, rfl, rfl, hCf, hc9, hK32⟩ := q1
  rw [List.singleton_append];have hun : Uns ls (M + 1) := hcu;have hKf : ∀ x ∈ K, -9223372036854775808 <= x /\ x < 9223372036854775808 := fun x hx => srcs_fit hlm x (hCf.sub x hx)
  refine kM J J (kO J (Q2 J J (kO J (Q2 J J (kM J J (kM J J (Q0 (rS (kO J (Z5 J (by decide) (.next .here) J (kM J J (kO J (W5 J J (fun s1 h1 => Point_s _ (M : Int) _ _ ls _ _ l1 s1 h1.wf (by omega) (hTL.rows (.cons _ (.cons _ (List.sublist_append_left _ _))) h1 hLg (by omega) (by omega) hft) (hI1.ext hs h1.2.1)) (fun v1 A1 q1 => ?_))))))))))))));rcases q1 with ⟨hp, rfl, rfl⟩ | ⟨hp, hpu, rfl, rfl⟩ | ⟨hp, hpu, q1⟩
  ·exact absurd hsys hp
  ·refine kM J J (kO J (Q2 J J (kO J (Q2 J J (kM J J (kM J J (Q0 (rQ (rS (kM J J (kO J (a_eql J J (fun h => absurd h (by decide)) (fun _ => (Q0 (Z0 J (Q1 (W0 (rQ (rS (kM J J (kO J (Y4 J J (fun h => absurd h (by decide)) (fun _ => (kM J J (kG J J (W3 J (kG J J (Y4 J J (fun h => absurd h (by decide)) (fun _ => (kO J (V1 J J J (kM J J (kG J J (Z5 J (by decide) (.next .here) J ?_))))))))))))))))))))))))))))))))))
   refine kG J J (W3 J (kG J J (a_callV J J (fun s1 h1 => CheckConflict_k _ M _ _ ls _ _ K s1 h1.wf (by omega) (hTL.rows (.cons _ (.cons _ (List.sublist_append_left _ _))) h1 hLg (by omega) (by omega) hft) (IntsE.ownP (h1.own .here) hKf (by omega)) (fun q => by cases q) hK32 hCf hXr (by omega) hM hlm hsys) (kG J J (Y4 J J (fun h => absurd h (by decide)) (fun _ => (kO J (V1 J J J (kM J J (kG J J (W3 J (kG J J (a_len J (kG J J (a_eql J J (fun h12 => ?_) (fun h12 => ?_))))))))))))))))
   ·exfalso; have := hCf.pos hM; omega
   ·refine kO J (V1 J J J (Q0 (Z0 J (Q1 (W0 (rS (kM J J (Q0 (rQ (rS (kO J (Z5 J (by decide) (.next .here) J (kO J (W5 J J (fun s1 h1 => Sources_s _ M _ _ ls s1 h1.wf (by omega) (hTL.rows (.cons _ (.cons _ (List.sublist_append_left _ _))) h1 hLg (by omega) (by omega) hft) hXr (by omega)) (fun v1 A1 q1 => ?_)))))))))))))))
    obtain ⟨bS13, cS9, zS, rfl, hcS1, hcS2, rfl⟩ := q1;rw [List.singleton_append];have hrs9 := rsn_le (srcs ls);rw [srcs_len] at hrs9;have hof9 : ∀ x ∈ oth K (rsn (srcs ls)) (rsn (srcs ls)).length, -9223372036854775808 <= x /\ x < 9223372036854775808 := fun x hx => rsn_fit (srcs_fit hlm) x ((oth_all x).1 hx).1
    refine kO J (a_len J (kM J J (Q0 (Y1 ?_))));refine Y5 (fun j e A => ∃ (k : Nat) (aI : Option Addr) (n9 cI : Nat) (UL : List Ob), e = [(1, .slice a1 l1.length c1), (5, .pointer (some ⟨b2, 0, none⟩)), (6, .slice (some ⟨b93, 0, none⟩) K.length c9), (10, .slice aI n9 cI), (57, .slice (some ⟨bS13, 0, none⟩) (rsn (srcs ls)).length cS9), (58, .int .i64 ((rsn (srcs ls)).length : Int)), (59, .int .i64 (k : Int))] /\ A = (UL ++ (.row bS13 3 false (ints (rsn (srcs ls)) ++ zS) :: (.row b93 3 op9 (ints K ++ z9) :: (.row b2 29 false ([.int .i64 (M : Int), .slice aT ls.length cT]) :: (TL ++ (.row b1 24 false ([.int .i64 r0, .slice ar rs.length cr]) :: [])))))) /\ j = (rsn (srcs ls)).length - k /\ k <= (rsn (srcs ls)).length /\ n9 = (oth K (rsn (srcs ls)) k).length /\ IlR 3 aI n9 cI (oth K (rsn (srcs ls)) k) UL) 500 281474976710656 281474976710656 ?_ (j := _) (env2 := _) (A2 := _) ?_ ?_ ?_ ?_ ⟨0, none, 0, 0, [], rfl, rfl, rfl, Nat.zero_le _, rfl, (.inl ⟨rfl, rfl, rfl, rfl, rfl⟩)⟩
    rotate_left
    ·omega
    ·omega
    ·exact (lc 1 J (lc 5 J (lc 6 J (lc 10 J (lc 57 J (lc 58 J (lc 59 J Less.nil)))))))
    ·exact (.q (.q (.q (.r (.q .slnil)))))
    rintro n hn j _ _ ⟨k, aI, n9, cI, UL, rfl, rfl, rfl, hk, hn9, hU⟩;have hol9 := oth_len (K := K) (S := (rsn (srcs ls))) (k := k);refine rS (kO J (V5 J J (fun h14 => ?_) (fun h14 => ?_)))
    ·refine Q0 (rQ (Y0 J (Q1 (W0 (rQ (Y1 (rS (kO J (W4 (j := k) J J (by omega) (by omega) (kO J (Z1 J (.app .here) (ints_getP (by omega)) (kM J J (Q0 (rS (kM J J (kM J J (kO J (W5 J J (fun s1 h1 => Has_s _ _ _ K ((rsn (srcs ls)).getD k 0) s1 h1.wf (by omega) (IntsE.ownP (h1.own (.app (.next .here))) hKf (by omega))) (fun v1 A1 q1 => ?_)))))))))))))))))))
     rcases q1 with ⟨hmm, rfl, rfl⟩ | ⟨hmm, rfl, rfl⟩
     ·rw [List.nil_append]
      refine kO J (Z7 J (Q0 (Z0 J (Q1 (U1 (W0 (rI (kO J (V3 J J (by omega) (kM J J (Q0 (W0 ?_))))))))))));exact ⟨rfl, _, _, _, (show (rsn (srcs ls)).length - (k + 1) < (rsn (srcs ls)).length - k by omega), (lc 1 J (lc 5 J (lc 6 J (lc 10 J (lc 57 J (lc 58 J (lc 59 J Less.nil))))))), (.r (.q (.q (.q (.r (.q .slnil)))))), ⟨k + 1, aI, n9, cI, UL, rfl, rfl, rfl, (by omega), (by rw [oth_no (by omega) hmm]; exact hn9), (by rw [oth_no (by omega) hmm]; exact hU)⟩⟩
     ·rw [List.nil_append]
      refine kO J (Z7 J (Q0 (Y0 J (rI (kM J J (kM J J (kO J (a_lit J J J (fun b15 => (kO J (a_appIC hU (.next .here) J J (Src.own .here rfl (by simp)) (by decide) (by omega) (by omega) (fun b16 => (kM J J (Q0 (U1 (W0 (rI (kO J (V3 J J (by omega) (kM J J (Q0 (W0 ?_))))))))))))))))))))));exact ⟨rfl, _, _, _, (show (rsn (srcs ls)).length - (k + 1) < (rsn (srcs ls)).length - k by omega), (lc 1 J (lc 5 J (lc 6 J (lc 10 J (lc 57 J (lc 58 J (lc 59 J Less.nil))))))), (.q (.cons _ (.q (.q (.q (.r (.q .slnil))))))), ⟨k + 1, some ⟨b16, 0, none⟩, n9 + 1, OPEN, [.row b16 3 true (ints (oth K (rsn (srcs ls)) (k + 1)))], rfl, (by rw [oth_yes (by omega) hmm, snoc1]; rfl), rfl, (by omega), (by rw [oth_yes (by omega) hmm, List.length_append, hn9]; rfl), (.inr ⟨_, _, rfl, by omega, by rw [oth_yes (by omega) hmm, List.length_append, hn9]; rfl, .inl ⟨rfl, rfl⟩, rfl⟩)⟩⟩
    ·obtain rfl : k = (rsn (srcs ls)).length := by omega
     subst hn9;refine Q0 (rQ (Z0 J (Q5 (Q3 (Q3 (Z3 (W0 (rS (kO J (Z5 J (by decide) (.app (.next (.next .here))) J (kM J J (kO J (W5 J J (fun s1 h1 => Without_s _ M _ _ ls _ _ (oth K (rsn (srcs ls)) (rsn (srcs ls)).length) s1 h1.wf (by omega) (hTL.rows (List.sublist_append_of_sublist_right (.cons _ (.cons _ (.cons _ (List.sublist_append_left _ _))))) h1 hLg (by omega) (by omega) hft) (hU.rows (List.sublist_append_left _ _) h1 hof9 (by omega)) hU.ncl (by omega) hXr (by omega)) (fun v1 A1 q1 => ?_))))))))))))));obtain ⟨aP, cP, PL, rfl, hA7, hPO⟩ := q1;rw [hA7];rw [wo_on (fun y => oth_all y)] at hPO ⊢;refine kO J (a_new J J (fun b17 => (kZ J (V6 J J .here rfl rfl rfl rfl (Q0 (rS ?_))))));have hkl := kp_len (t := true) (ls := ls) (ws := K);refine kO J (Z5 J (by decide) .here rfl (kM J J (kO J (W5 J J (fun s1 h1 => Point_s _ (M : Int) _ _ (kp true ls K) _ _ l1 s1 h1.wf (by omega) (hPO.tlr.ok.1.rows (.cons _ (List.sublist_append_left _ _)) h1 (lg_of (kp_lm hlm)) (by omega) (by omega) (kp_fit hft)) (hI1.ext hs h1.2.1)) (fun v1 A1 q1 => ?_)))));rcases q1 with ⟨hp, rfl, rfl⟩ | ⟨hp, hpu, rfl, rfl⟩ | ⟨hp, hpu, q1⟩
     ·exact absurd (kp_sys (by omega) (by omega) hlm) hp
     ·rw [List.nil_append]
      refine kM J J (kO J (Q2 J J (kO J (Q2 J J (kM J J (kM J J (Q0 (rQ (rS (kM J J (kO J (Y4 J J (fun h => absurd h (by decide)) (fun _ => (Q0 (Z0 J (Q1 (W0 (rQ (rS (kM J J (kO J (a_len J (kM J J (Q0 (Y1 ?_)))))))))))))))))))))))));refine Y5 (fun j e A => ∃ (k : Nat), e = [(1, .slice a1 l1.length c1), (5, .pointer (some ⟨b2, 0, none⟩)), (6, .slice (some ⟨b93, 0, none⟩) K.length c9), (13, .pointer (some ⟨b17, 0, none⟩)), (84, .int .i64 (K.length : Int)), (85, .int .i64 (k : Int))] /\ A = (.row b17 29 false ([.int .i64 (M : Int), .slice aP (kp true ls K).length cP]) :: (PL ++ (.row b93 3 op9 (ints K ++ z9) :: (.row b2 29 false ([.int .i64 (M : Int), .slice aT ls.length cT]) :: [])))) /\ j = K.length - k /\ k <= K.length) 9500 5629499534213120 281474976710656 ?_ (j := _) (env2 := _) (A2 := _) ?_ ?_ ?_ ?_ ⟨0, rfl, rfl, rfl, Nat.zero_le _⟩
      rotate_left
      ·omega
      ·omega
      ·exact (lc 1 J (lc 5 J (lc 6 J (lc 13 J (lc 84 J (lc 85 J Less.nil))))))
      ·exact (.q (.r (List.sublist_append_of_sublist_right (.cons _ (.q (.q (List.sublist_append_of_sublist_right (.cons _ .slnil))))))))
      rintro n hn j _ _ ⟨k, rfl, rfl, rfl, hk⟩;refine rS (kO J (V5 J J (fun h20 => ?_) (fun h20 => ?_)))
      ·have hde9 := de_len (l := K) (i := k) (by omega)
       refine Q0 (rQ (Y0 J (Q1 (W0 (rQ (Y1 (rS (kM J J (kM J J (Q0 (rS (kO J (Z5 J (by decide) .here rfl (kM J J (kM J J (kM J J (kO J (V3 J J (by omega) (kO J (a_slLH (k := k) hc9 rfl rfl rfl (.next (.app .here)) (by omega) (by rw [List.length_append, ints_len]; omega) (fun c' => (kM J J (kO J (W5 J J (fun s1 h1 => Without_s _ M _ _ (kp true ls K) _ _ [K.getD k 0] s1 h1.wf (by omega) (hPO.tlr.ok.1.rows (.cons _ (List.sublist_append_left _ _)) h1 (lg_of (kp_lm hlm)) (by omega) (by omega) (kp_fit hft)) (IntsE.ownAt (h1.own (.next (.app .here))) (by omega) hKf) (fun q => by cases q) (by show 1 <= 32; decide) hXr (by omega)) (fun v1 A1 q1 => ?_)))))))))))))))))))))))));obtain ⟨aQ, cQ, QL, rfl, hA7, hQO⟩ := q1;rw [hA7];rw [wo_one hCf.inc (by omega)] at hQO ⊢;refine kO J (W5 J J (fun s1 h1 => Point_s _ (M : Int) _ _ (kp true ls (de K k)) _ _ l1 s1 h1.wf (by omega) (hQO.tlr.ok.1.rows (List.sublist_append_left _ _) h1 (lg_of (kp_lm hlm)) (by omega) (by have := kp_len (t := true) (ls := ls) (ws := de K k); omega) (kp_fit hft)) (hI1.ext hs h1.2.1)) (fun v1 A1 q1 => ?_));rcases q1 with ⟨hp, rfl, rfl⟩ | ⟨hp, hpu, rfl, rfl⟩ | ⟨hp, hpu, q1⟩
       ·exact absurd (kp_sys (by omega) (by omega) hlm) hp
       ·exact absurd hpu (hCf.no k (Nat.zero_le _) (by omega))
       ·obtain ⟨bx21, opp, cpp, Dp, rfl, rfl, hDT⟩ := q1
        rw [show ((M : Int).toNat) = M from rfl, List.singleton_append];refine kM J J (kO J (Q2 J J (kO J (Q2 J J (kM J J (kM J J (Q0 (rS (kM J J (kO J (Y4 J J (fun h => absurd h (by decide)) (fun _ => (kM J J (kG J J (W3 J (kG J J (a_len J (kG J J (Z2 J (kG J J (Z1 J (.next (.app (.next (.app (.next .here))))) J (kG J J (V3 J J (by omega) (kG J J (Y4 J J (fun h23 => ?_) (fun h23 => ?_))))))))))))))))))))))))))
        ·exfalso; omega
        ·refine kO J (V1 J J J (Q0 (Z0 J (Q1 (U1 (W0 (rI (kO J (V3 J J (by omega) (kM J J (Q0 (W0 ?_))))))))))))
         exact ⟨rfl, _, _, _, (show K.length - (k + 1) < K.length - k by omega), (lc 1 J (lc 5 J (lc 6 J (lc 13 J (lc 84 J (lc 85 J Less.nil)))))), (.cons _ (List.sublist_append_of_sublist_right (.q (.r (.q (.q .slnil)))))), ⟨k + 1, rfl, rfl, rfl, by omega⟩⟩
      ·refine Q0 (rQ (Z0 J (Q5 (Q3 (Q3 (Z3 (W0 (rS (kO J (a_callV J J (fun s1 h1 => known_or _ s1 h1.wf) (kM J J (Q0 (Y3 ?_)))))))))))))
       exact end1 J ⟨rfl, rfl⟩
     ·exact absurd hCf.un hpu
  ·exact absurd hun hpu
end
end Ev
end Go.Proofs.Ytoeklhdklcpllaa
