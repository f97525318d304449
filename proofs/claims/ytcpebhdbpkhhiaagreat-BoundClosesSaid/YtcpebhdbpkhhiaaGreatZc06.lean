import Derived.Test.YtcpebhdbpkhhiaaGreatZc04
import Derived.Test.YtcpebhdbpkhhiaaGreatZc05
set_option linter.unusedVariables false
set_option linter.unusedSimpArgs false
/- Loops that put something off in each round. -/
namespace Go.Proofs.YtcpebhdbpkhhiaaGreat.Ev
open Go Go.RowKit
section
variable {P : Program} {C : Nat → (CF → Bool) → Bool} {X : FuncId → List Value → St → (Value → St → Bool) → Bool} {nt : Nat} {r : Option Nat} {env : List (Nat × Value)} {D : List Nat} {Q : Out → List (Nat × Value) → List Nat → St → Prop} {s : St}
theorem run_loopD {b : CC} (I : Nat → List (Nat × Value) → List Nat → St → Prop) (c K : Nat) (hb : ∀ n, K ≤ n → ∀ j e D s, I j e D s → RunE P C X (n + c) nt r b e D s (thenQ (fun e' D' s' => ∃ j' e2, j' < j ∧ Less e' e2 ∧ I j' e2 D' s') Q)) :
    ∀ {n j : Nat} {env : List (Nat × Value)} {D : List Nat} {s : St}, K ≤ n → I j env D s → RunE P C X (n + j + c + 1) nt r (.loop b) env D s Q := by
  intro n j
  induction j using Nat.strongRecOn generalizing n with
  | ind j ih =>
    intro env D s hK hI T hT k hk
    show (oracX P C X (n + j + c)).code r b T D s (fun x T D s => onOut x ((oracX P C X (n + j + c)).code r (.loop b) T D s k) (k x T D s) (fun _ => k x T D s) (fun _ => k x T D s)) = true
    refine hb (n + j) (by omega) j env D s hI T hT _ (fun x e T' D' s' hT' hq => ?_)
    cases x with
    | normal =>
      obtain ⟨j', e2, hlt, hl, hI'⟩ := hq
      have e1 : n + j + c = (n + (j - j' - 1)) + j' + c + 1 := by omega
      show (oracX P C X (n + j + c)).code r (.loop b) T' D' s' k = true
      rw [e1]
      exact ih j' hlt (n := n + (j - j' - 1)) (by omega) hI' T' (hT'.less hl) k hk
    | ret => exact hk _ _ T' D' s' hT' hq
    | exit i => exact hk _ _ T' D' s' hT' hq
    | goto i => exact hk _ _ T' D' s' hT' hq
theorem run_loop_inD {b : CC} (I : Nat → List (Nat × Value) → List Nat → St → Prop) (c K L : Nat) (hb : ∀ n, K ≤ n → ∀ j e D s, I j e D s → RunE P C X (n + c) nt r b e D s (thenQ (fun e' D' s' => ∃ j' e2, j' < j ∧ Less e' e2 ∧ I j' e2 D' s') Q))
    {n j : Nat} {env2 : List (Nat × Value)} (hn : K + L ≤ n) (hj : j ≤ L) (hl : Less env env2) (hI : I j env2 D s) : RunE P C X (n + c + 1) nt r (.loop b) env D s Q := by
  have := run_loopD (P := P) (C := C) (X := X) (nt := nt) (r := r) (Q := Q) I c K hb (n := n - j) (by omega) hI
  rw [show n - j + j + c + 1 = n + c + 1 by omega] at this
  exact this.less hl
end
section
variable {P : Program} {C : Nat → (CF → Bool) → Bool} {X : FuncId → List Value → St → (Value → St → Bool) → Bool} {s0 : St} {n nt : Nat} {r : Option Nat} {env : List (Nat × Value)} {D : List Nat} {A : List Ob} {Q : Out → List (Nat × Value) → List Nat → List Ob → Prop}
theorem r_loopD {b : CC} (I : Nat → List (Nat × Value) → List Nat → List Ob → Prop) (c K L : Nat) (hb : ∀ n, K ≤ n → ∀ j e D A, I j e D A → RunA P C X s0 (n + c) nt r b e D A (thenA (fun e' D' A' => ∃ j' e2 A2, j' < j ∧ Less e' e2 ∧ A2.Sublist A' ∧ I j' e2 D' A2) Q))
    {j : Nat} {env2 : List (Nat × Value)} {A2 : List Ob} (hn : K + L ≤ n) (hj : j ≤ L) (hl : Less env env2) (ha : A2.Sublist A) (hI : I j env2 D A2) : RunA P C X s0 (n + c + 1) nt r (.loop b) env D A Q := .mk fun s hs => by
  refine run_loop_inD (env2 := env2) (fun j e D s => ∃ A, Hld s0 A s ∧ I j e D A) c K L (fun n hK j e D s hI => ?_) hn hj hl ⟨A2, hs.sub ha, hI⟩
  obtain ⟨A1, h1, h2⟩ := hI
  refine ((hb n hK j e D A1 h2).go s h1).mono (fun x e D' s' hq => ?_)
  obtain ⟨A', h3, h4⟩ := hq
  cases x with
  | normal =>
    obtain ⟨j', e2, A2, h6, h7, h8, h9⟩ := h4
    exact ⟨j', e2, h6, h7, A2, h3.sub h8, h9⟩
  | ret => exact ⟨A', h3, h4⟩
  | exit i => exact ⟨A', h3, h4⟩
  | goto i => exact ⟨A', h3, h4⟩
theorem deld_map {R : List Ob} : ∀ {qs : List Nat}, DelD (qs.map Ob.dfr ++ R) qs R
  | [] => .nil
  | q :: qs => .cons .here deld_map
/-- copy: what is read first is laid into a row of the call's own. -/
theorem a_copy1 {x y : Ev.X} {b off len cap b' off' n' c' e j : Nat} {op : Bool} {l more : List Value} {A' : List Ob} {R : Value → List Ob → Prop} (hx : xv env x = some (.slice (some ⟨b, off, none⟩) len cap)) (hy : xv env y = some (.slice (some ⟨b', off', none⟩) n' c')) (hj : j = if n' ≤ len then n' else len) (h0 : j ≠ 0) (hm : more.length = j)
    (hr : (∃ e op l, Own A b' e op l ∧ segL l off' more.length = some more) ∨ Ats s0 b' off' more) (hu : Upd A b e op l (over l off more) A') (hfit : off + j ≤ l.length) (h : R (.int .i64 (j : Int)) A') : OpA P C X s0 n nt (.copy 1 x y) env A R := .mk fun s hs T hT k hk => by
  refine valE_of hT (k := fun x => valK T y (fun y => copyK s 1 x y k)) hx (valE_of hT (k := fun y => copyK s 1 _ y k) hy ?_)
  have hne : more ≠ [] := fun q => h0 (by rw [← hm, q]; rfl)
  have ha : Ats s b' off' more := by
    rcases hr with ⟨e, op, l, h3, h4⟩ | h3
    · exact (hs.own h3).ats (segL_eq h4).2
    · exact hs.ats h3
  have key : (fun j => ifB (Nat.beq j 0) (k (.int .i64 (.ofNat 0)) s) (rowK s b (fun m c e op => copyToK (fun h => seeK s b' (fun c' => segK c' off' (Nat.mul j 1) h) (fun g => romSegK g off' (Nat.mul j 1) h)) (fun l =>
        ifB (Nat.ble (Nat.add off (Nat.mul j 1)) m) (putsK c off l (fun c => storeK s b (.cells m c e op) (k (.int .i64 (.ofNat j))))) false)))) j = true := by
    show ifB (Nat.beq j 0) _ (rowK s b _) = true
    rw [show Nat.beq j 0 = false from beqF h0]
    obtain ⟨c, hc, hf, hg⟩ := hs.own hu.own
    show objK s b _ = true
    refine objK_of (k := _) hc ?_
    obtain ⟨f, h5, h6⟩ := ha.see hne
    have done : ifB (Nat.ble (Nat.add off (Nat.mul j 1)) l.length) (putsK c off more (fun c => storeK s b (.cells l.length c e op) (k (.int .i64 (.ofNat j))))) false = true := by
      rw [show Nat.ble (Nat.add off (Nat.mul j 1)) l.length = true from by rw [Nat.ble_eq]; show off + j * 1 ≤ l.length; omega]
      have hfit2 : off + more.length ≤ l.length := by omega
      refine putsK_of hf hfit2 (fun c' hc' hg' => storeK_of hs.wf (Full.lt hs.wf hc) (fun s1 hm1 hn1 hd1 => ?_))
      have hol : (over l off more).length = l.length := over_length hfit2
      refine hk _ _ ⟨_, hs.upd hu hm1 ⟨c', by rw [hol]; exact hd1, by rw [hol]; exact hc', fun q => ?_⟩, h⟩
      rw [hg', over_get hfit2]
      by_cases h1 : off ≤ q ∧ q < off + more.length
      · rw [if_pos h1, if_pos h1]
      · rw [if_neg h1, if_neg h1, hg]
    have hj1 : more.length = Nat.mul j 1 := by show _ = j * 1; omega
    refine seeK_of h5 (fun c2 hc2 => ?_) ?_
    · subst hc2; exact segK_of (k := fun l' => ifB (Nat.ble (Nat.add off (Nat.mul j 1)) l.length) (putsK c off l' (fun c => storeK s b (.cells l.length c e op) (k (.int .i64 (.ofNat j))))) false) hj1 (fun q hq => h6 q (by rw [hj1]; exact hq)) done
    · exact romSegK_of (k := fun l' => ifB (Nat.ble (Nat.add off (Nat.mul j 1)) l.length) (putsK c off l' (fun c => storeK s b (.cells l.length c e op) (k (.int .i64 (.ofNat j))))) false) hj1 (fun q hq => h6 q (by rw [hj1]; exact hq)) done
  show minN n' len (fun j => ifB (Nat.beq j 0) (k (.int .i64 (.ofNat 0)) s) (rowK s b (fun m c e op => copyToK (fun h => seeK s b' (fun c' => segK c' off' (Nat.mul j 1) h) (fun g => romSegK g off' (Nat.mul j 1) h)) (fun l =>
        ifB (Nat.ble (Nat.add off (Nat.mul j 1)) m) (putsK c off l (fun c => storeK s b (.cells m c e op) (k (.int .i64 (.ofNat j))))) false)))) = true
  unfold minN
  by_cases q : n' ≤ len
  · rw [show Nat.ble n' len = true from by rw [Nat.ble_eq]; exact q]
    rw [if_pos q] at hj
    subst hj
    exact key
  · rw [show Nat.ble n' len = false from by
      cases hb : Nat.ble n' len with
      | false => rfl
      | true => rw [Nat.ble_eq] at hb; omega]
    rw [if_neg q] at hj
    subst hj
    exact key
/-- x[:h] and x[h:] of a row that was made. -/
theorem a_slcT {e : Nat} {x hi : Ev.X} {b o len c h : Nat} {z : Int} {R : Value → List Ob → Prop} (hx : xv env x = some (.slice (some ⟨b, o, none⟩) len c)) (hi' : xv env hi = some (.int .i64 z)) (hz : z = (h : Int)) (hh : h ≤ c) (hc : c < OPEN) (hR : R (.slice (some ⟨b, o, none⟩) h c) A) : OpA P C X s0 n nt (.slc e 1 x none (some hi) none) env A R := .mk fun s hs T hT k hk => by
  subst hz
  refine valE_of hT (k := fun x => valOK T none (fun lo => valOK T (some hi) (fun hi => valOK T none (fun mx => slcK s e 1 x lo hi mx (vK s k))))) hx ?_
  refine valE_of hT (k := fun v => slcK s e 1 _ none (some v) none (vK s k)) hi' ?_
  unfold slcK
  rw [slc_first hh hc]
  show forceV (Value.slice (some ⟨b, o, none⟩) h c) (vK s k) = true
  rw [forceV_eq]
  exact hk _ _ ⟨A, hs, hR⟩
theorem slc_from {row : Nat → Option (Nat × Nat × Bool)} {e b o len c l : Nat} (h : l ≤ len) (hl : len ≤ c) (hlc : l < c) (hc : c < OPEN) : evSlc row e 1 (.slice (some ⟨b, o, none⟩) len c) (some (.int .i64 (l : Int))) none none = some (.slice (some ⟨b, o + l * 1, none⟩) (len - l) (c - l)) := by
  show sel (Nat.ble OPEN c) _ (sel (Nat.ble len c) (sel (Nat.ble l len) (some (Value.slice (some ⟨b, sel (Nat.beq c l) o (o + l * 1), none⟩) (len - l) (c - l))) none) none) = _
  rw [show Nat.ble OPEN c = false from by
    cases hb : Nat.ble OPEN c with
    | false => rfl
    | true => rw [Nat.ble_eq] at hb; omega, show Nat.ble len c = true from by rw [Nat.ble_eq]; exact hl, show Nat.ble l len = true from by rw [Nat.ble_eq]; exact h, show Nat.beq c l = false from beqF (by omega)]
  rfl
theorem a_slcF {e : Nat} {x lo : Ev.X} {b o len c l : Nat} {z : Int} {R : Value → List Ob → Prop} (hx : xv env x = some (.slice (some ⟨b, o, none⟩) len c)) (hi' : xv env lo = some (.int .i64 z)) (hz : z = (l : Int)) (hh : l ≤ len) (hl : len ≤ c) (hlc : l < c) (hc : c < OPEN) (hR : R (.slice (some ⟨b, o + l * 1, none⟩) (len - l) (c - l)) A) : OpA P C X s0 n nt (.slc e 1 x (some lo) none none) env A R := .mk fun s hs T hT k hk => by
  subst hz
  refine valE_of hT (k := fun x => valOK T (some lo) (fun lo => valOK T none (fun hi => valOK T none (fun mx => slcK s e 1 x lo hi mx (vK s k))))) hx ?_
  refine valE_of hT (k := fun v => slcK s e 1 _ (some v) none none (vK s k)) hi' ?_
  unfold slcK
  rw [slc_from hh hl hlc hc]
  show forceV (Value.slice (some ⟨b, o + l * 1, none⟩) (len - l) (c - l)) (vK s k) = true
  rw [forceV_eq]
  exact hk _ _ ⟨A, hs, hR⟩
end
end Go.Proofs.YtcpebhdbpkhhiaaGreat.Ev

/- Numbers that come back; numbers that are moved. -/
namespace Go.Proofs.YtcpebhdbpkhhiaaGreat
open Go Go.RowKit
namespace Ev
/-- Where one comes from an unknown, against the steps. -/
def itr (c : Nat → Nat × Nat × Nat × Int) (l : Nat) : Nat → Nat
  | 0 => l
  | m + 1 => (c (itr c l m)).2.1
theorem itr_lt {c : Nat → Nat × Nat × Nat × Int} {N l : Nat} (hc : ∀ v, v < N → (c v).2.1 < N) (hl : l < N) : ∀ m, itr c l m < N
  | 0 => hl
  | m + 1 => hc _ (itr_lt hc hl m)
theorem itr_add {c : Nat → Nat × Nat × Nat × Int} {l a : Nat} : ∀ b, itr c l (a + b) = itr c (itr c l a) b
  | 0 => rfl
  | b + 1 => by show (c (itr c l (a + b))).2.1 = (c (itr c (itr c l a) b)).2.1; rw [itr_add b]
theorem pigeon : ∀ (N : Nat) (f : Nat → Nat), (∀ i, i ≤ N → f i < N) → ∃ i j, i < j ∧ j ≤ N ∧ f i = f j
  | 0, f, h => absurd (h 0 (Nat.le_refl _)) (Nat.not_lt_zero _)
  | N + 1, f, h => by
    by_cases q : ∃ i, i ≤ N ∧ f i = f (N + 1)
    · obtain ⟨i, h1, h2⟩ := q
      exact ⟨i, N + 1, by omega, Nat.le_refl _, h2⟩
    · have hq : ∀ i, i ≤ N → f i ≠ f (N + 1) := fun i hi e => q ⟨i, hi, e⟩
      have ha := h (N + 1) (Nat.le_refl _)
      obtain ⟨i, j, h1, h2, h3⟩ := pigeon N (fun i => if f i = N then f (N + 1) else f i) (fun i hi => by
        have h4 := hq i hi
        have h5 := h i (by omega)
        show (if f i = N then f (N + 1) else f i) < N
        split <;> omega)
      refine ⟨i, j, h1, by omega, ?_⟩
      have h4 := hq i (by omega)
      have h5 := hq j (by omega)
      have h6 : (if f i = N then f (N + 1) else f i) = (if f j = N then f (N + 1) else f j) := h3
      split at h6 <;> split at h6 <;> omega
/-- Behind as many steps as there are unknowns one goes in a circle. -/
theorem itr_back {c : Nat → Nat × Nat × Nat × Int} {N l : Nat} (hc : ∀ v, v < N → (c v).2.1 < N) (hl : l < N) : ∃ p, 1 ≤ p ∧ p ≤ N ∧ itr c (itr c l N) p = itr c l N := by
  obtain ⟨i, j, h1, h2, h3⟩ := pigeon N (itr c l) (fun i _ => itr_lt hc hl i)
  refine ⟨j - i, by omega, by omega, ?_⟩
  have e1 : itr c l N = itr c (itr c l i) (N - i) := by rw [← itr_add]; congr 1; omega
  have e2 : itr c (itr c l N) (j - i) = itr c (itr c l j) (N - i) := by
    rw [← itr_add, ← itr_add]; congr 1; omega
  rw [e2, ← h3, ← e1]
theorem cvs_from {c : Nat → Nat × Nat × Nat × Int} {N j : Nat} (h : j < N) : (cvs c N)[0 + j * 5 + 2]? = some (.int .i64 ((c j).2.1 : Int)) := by
  rw [Nat.zero_add, cvs_get (by decide) h]; rfl
theorem cvs_lim {c : Nat → Nat × Nat × Nat × Int} {N j : Nat} (h : j < N) : (cvs c N)[0 + j * 5 + 0]? = some (.int .i64 ((c j).1 : Int)) := by
  rw [Nat.zero_add, cvs_get (by decide) h]; rfl
theorem over_ints {w : List Int} {k : Nat} {z : Int} (h : k < w.length) : over (ints w) (k * 1) [.int .i64 z] = ints (w.set k z) := by
  rw [Nat.mul_one]
  have e : ints (w.set k z) = (ints w).set k (.int .i64 z) := by simp [ints, List.map_set]
  rw [e, List.set_eq_take_append_cons_drop, if_pos (by rw [ints_len]; exact h)]
  unfold over
  simp
def Mvd (l w : List Int) (d : Int) (k : Nat) : Prop := w.length = l.length ∧ ∀ i, i < k → w.getD i 0 = l.getD i 0 + d
theorem Mvd.step {l w : List Int} {d : Int} {k : Nat} (h : Mvd l w d k) (hk : k < l.length) : Mvd l (w.set k (l.getD k 0 + d)) d (k + 1) := by
  refine ⟨by rw [List.length_set]; exact h.1, fun i hi => ?_⟩
  by_cases q : k = i
  · subst q
    rw [List.getD_eq_getElem?_getD, List.getElem?_set, if_pos rfl, if_pos (by rw [h.1]; exact hk)]; rfl
  · rw [getD_set_ne q]; exact h.2 i (by omega)
/-- The numbers round by round. -/
def st0 (s : Fs) : Fs := ⟨s.x, s.c, -1⟩
def stl (ls : List (List Int)) (N : Nat) : Nat → Fs
  | 0 => ⟨fun _ => 0, fun _ => (0, 0, 0, 0), -1⟩
  | r + 1 => lwS ls (st0 (stl ls N r)) N

section
variable {X : FuncId → List Value → St → (Value → St → Bool) → Bool}
theorem moved_s (n : Nat) (a : Option Addr) (cap : Nat) (l : List Int) (d : Int) (s : St) (hs : Wf s) (hn : 281474976710656 ≤ n) (hl : IntsE s a l) (hd : -1000000000000000 ≤ d ∧ d ≤ 1000000000000000) (hb : ∀ i, i < l.length → -1000000000000000 ≤ l.getD i 0 ∧ l.getD i 0 ≤ 1000000000000000) (h64 : l.length ≤ 100000) : Spec Tryz.prog (tabK tabw) X (n + 400) 66 [.slice a l.length cap, .int .i64 d] s (fun v A => ∃ b w, v = .slice (some ⟨b, 0, none⟩) l.length l.length ∧ A = [.row b 3 false (ints w)] ∧ Mvd l w d l.length) := by
 refine enter bw66_at rfl hs ?_
 unfold bw66
 have hlen := hl.len
 refine rS (kM rfl rfl (i_nil (rS (kM rfl rfl (kO rfl (a_lenx rfl hl.spot (kO rfl (a_mksI (m := 0) rfl rfl (by omega) (by omega) (by omega) (fun b1 => (kM rfl rfl (i_nil (rQ (rS (kM rfl rfl (kO rfl (a_lenx rfl hl.spot (kM rfl rfl (i_nil (r_block (r_loop (fun j e A => ∃ (k : Nat) (w : List Int), e = [(1, .int .i64 d), (5, .slice (some ⟨b1, 0, none⟩) k l.length), (11, .slice a l.length cap), (12, .int .i64 (l.length : Int)), (13, .int .i64 (k : Int))] ∧ A = (.row b1 3 false (ints w) :: []) ∧ j = l.length - k ∧ k ≤ l.length ∧ Mvd l w d k) 200 0 281474976710656 ?_ (j := _) (env2 := _) (A2 := _) ?_ ?_ ?_ ?_ ⟨0, List.replicate l.length 0, rfl, rfl, rfl, Nat.zero_le _, ⟨by simp, fun i hi => absurd hi (Nat.not_lt_zero i)⟩⟩))))))))))))))))))))
 rotate_left
 ·omega
 ·omega
 ·exact (lc 1 rfl (lc 5 rfl (lc 11 rfl (lc 12 rfl (lc 13 rfl Less.nil)))))
 ·exact (.cons_cons _ .slnil)
 rintro n hn j _ _ ⟨k, w, rfl, rfl, rfl, hk, hw⟩
 have hwl := hw.1
 refine rS (kO rfl (a_lss rfl rfl (fun h2 => ?_) (fun h2 => ?_)))
 ·refine i_nil (rQ (r_cond_t rfl (r_skip (then_n (rQ (r_block (rS (kO rfl (a_iaI (j := k) hl rfl rfl (by omega) (by first | rfl | omega) (by omega) (fun _ _ a3 => ?_))))))))))
  have hbk := hb k (by omega)
  refine kO rfl (a_ldr rfl (hl.at a3 (by omega)) (kM rfl rfl (i_nil (rI (kM rfl rfl (kM rfl rfl (kM rfl rfl (kO rfl (a_add rfl rfl (by omega) (kO rfl (a_lit rfl rfl rfl (fun b4 => (kO rfl (a_appc rfl rfl (Src.own .here rfl (by simp)) (.next .here) (by rw [ints_len]; omega) (by omega) (by show _ < 18446744073709551616; omega) (by omega) (by omega) (kM rfl rfl (i_nil (block_n (then_n (rI (kO rfl (a_add rfl rfl (by omega) (kM rfl rfl (i_nil (then_n ?_))))))))))))))))))))))))
  exact ⟨rfl, _, _, _, (show l.length - (k + 1) < l.length - k by omega), (lc 1 rfl (lc 5 rfl (lc 11 rfl (lc 12 rfl (lc 13 rfl Less.nil))))), (.cons _ (.cons_cons _ .slnil)), ⟨k + 1, _, rfl, (by show [Ob.row _ _ _ (over (ints w) (k * 1) [.int .i64 _])] = _; rw [over_ints (by omega)]), rfl, by omega, (hw.step (by omega))⟩⟩
 ·refine i_nil (rQ (r_cond_f rfl (r_exit (then_e (then_e (block_hit (then_n (rS (kM rfl rfl (kM rfl rfl (i_nil (r_ret ?_))))))))))))
  have hkl : k = l.length := by omega
  subst hkl
  exact end1A rfl (.cons_cons _ .slnil) ⟨_, w, rfl, rfl, hw⟩

end
end Ev
end Go.Proofs.YtcpebhdbpkhhiaaGreat

/- Contract: whether a system is sound. -/
namespace Go.Proofs.YtcpebhdbpkhhiaaGreat
open Go Go.RowKit
namespace Ev
def FT (op : Bool) (cp t : Nat) : Prop := (op = true ∧ cp = OPEN) ∨ (op = false ∧ cp = 1 ∧ t = 0)
theorem tight_of {op : Bool} {cp t : Nat} (h : FT op cp t) : Tight op (t + 1) cp := by
  rcases h with h | ⟨h1, h2, rfl⟩
  · exact .inl h
  · exact .inr ⟨h1, h2, by decide⟩
theorem xs_zero {N : Nat} {ls : List (List Int)} : List.replicate N 0 = xs (stl ls N 0).x N := by
  refine List.ext_getElem? (fun j => ?_)
  unfold xs
  rw [List.getElem?_replicate, List.getElem?_map]
  by_cases h : j < N
  · rw [if_pos h, List.getElem?_range h]; rfl
  · rw [if_neg h, List.getElem?_eq_none (by simp; omega)]; rfl
theorem rep_get {n i : Nat} : (List.replicate n (0 : Int)).getD i 0 = 0 := by
  rw [List.getD_eq_getElem?_getD, List.getElem?_replicate]
  split <;> rfl
theorem rep5 {N : Nat} : N * 5 = (repeatN [.int .i64 0, .bool false, .int .i64 0, .int .i64 0, .int .i64 0] N).length := by rw [cvs_zero, cvs_len]
theorem nam_of {ls : List (List Int)} {i v : Nat} {y0 y1 y2 y3 : Int} (h : nam (ls.getD i []) v) (hx : ls[i]? = some [y0, y1, y2, y3]) : y0 = (v : Int) ∨ y1 = (v : Int) := by
  rw [List.getD_eq_getElem?_getD, hx] at h; exact h
def cyl (c : Nat → Nat × Nat × Nat × Int) (a : Nat) : Nat → List Int
  | 0 => [((c a).1 : Int)]
  | m + 1 => cyl c a m ++ [((c (itr c a (m + 1))).1 : Int)]
theorem cyl_len {c : Nat → Nat × Nat × Nat × Int} {a : Nat} : ∀ {m : Nat}, (cyl c a m).length = m + 1
  | 0 => rfl
  | m + 1 => by
    show (cyl c a m ++ _).length = _
    rw [List.length_append, cyl_len]; rfl
/-- A list that is being reversed. -/
def Rv (l w : List Int) (m i : Nat) : Prop := w.length = m + 1 ∧ ∀ t, t ≤ m → w.getD t 0 = if t < i ∨ m < t + i then l.getD (m - t) 0 else l.getD t 0
theorem Rv.zero {l : List Int} {m : Nat} (h : l.length = m + 1) : Rv l l m 0 := ⟨h, fun t ht => by rw [if_neg (by omega)]⟩
theorem getD_set {l : List Int} {i j : Nat} {v : Int} (h : i < l.length) : (l.set i v).getD j 0 = if i = j then v else l.getD j 0 := by
  by_cases q : i = j
  · subst q
    rw [if_pos rfl, List.getD_eq_getElem?_getD, List.getElem?_set, if_pos rfl, if_pos h]; rfl
  · rw [if_neg q, getD_set_ne q]
theorem Rv.step {l w : List Int} {m i : Nat} (h : Rv l w m i) (hi : i < m - i) : Rv l ((w.set i (w.getD (m - i) 0)).set (m - i) (w.getD i 0)) m (i + 1) := by
  obtain ⟨h1, h2⟩ := h
  refine ⟨by rw [List.length_set, List.length_set]; exact h1, fun t ht => ?_⟩
  rw [getD_set (by rw [List.length_set]; omega), getD_set (by omega)]
  have e1 := h2 i (by omega)
  have e2 := h2 (m - i) (by omega)
  have e3 := h2 t ht
  rw [if_neg (by omega)] at e1 e2
  by_cases q1 : m - i = t
  · rw [if_pos q1, if_pos (by omega), e1]; congr 1; omega
  · rw [if_neg q1]
    by_cases q2 : i = t
    · subst q2
      rw [if_pos rfl, if_pos (by omega), e2]
    · rw [if_neg q2, e3]
      by_cases q3 : t < i ∨ m < t + i
      · rw [if_pos q3, if_pos (by omega)]
      · rw [if_neg q3, if_neg (by omega)]
theorem Rv.done {l w : List Int} {m i : Nat} (h : Rv l w m i) (hi : ¬ i < m - i) : w.length = m + 1 ∧ ∀ t, t ≤ m → w.getD t 0 = l.getD (m - t) 0 := by
  refine ⟨h.1, fun t ht => ?_⟩
  rw [h.2 t ht]
  split
  · rfl
  · congr 1; omega
theorem snoc1 {w : List Int} {z : Int} : ints (w ++ [z]) = ints w ++ [.int .i64 z] := by simp [ints]
theorem nl_le {ls : List (List Int)} : ∀ (k v : Nat), (nl ls k v).length ≤ k
  | 0, _ => Nat.le_refl _
  | k + 1, v => by
    have := nl_le (ls := ls) k v
    show (nl ls k v ++ _).length ≤ _
    rw [List.length_append]
    split <;> simp <;> omega
/-- The numbers are not great, and the steps lead to unknowns. -/
structure SB (ls : List (List Int)) (N : Nat) : Prop where
  bd : ∀ r v q a, r < N → v < N → q ≤ (nl ls ls.length v).length → a < N → -100000000000000 ≤ (rwS ls (lwS ls (st0 (stl ls N r)) v) v q).x a ∧ (rwS ls (lwS ls (st0 (stl ls N r)) v) v q).x a ≤ 100000000000000
  xb : ∀ r a, r ≤ N → a < N → -100000000000000 ≤ (stl ls N r).x a ∧ (stl ls N r).x a ≤ 100000000000000
  par : ∀ a, a < N → ((stl ls N N).c a).2.1 < N
  last : ∀ r, r < N → (stl ls N (r + 1)).l = -1 ∨ ∃ u : Nat, u < N ∧ (stl ls N (r + 1)).l = (u : Int)

section
variable {X : FuncId → List Value → St → (Value → St → Bool) → Bool}
theorem moved_n (n : Nat) (a : Option Addr) (cap nw : Nat) (l : List Int) (d : Int) (s : St) (hs : Wf s) (hn : 281474976710656 ≤ n) (hw : nw = l.length) (hl : IntsE s a l) (hd : -1000000000000000 ≤ d ∧ d ≤ 1000000000000000) (hb : ∀ i, i < l.length → -1000000000000000 ≤ l.getD i 0 ∧ l.getD i 0 ≤ 1000000000000000) (h64 : l.length ≤ 100000) : Spec Tryz.prog (tabK tabw) X (n + 400) 66 [.slice a nw cap, .int .i64 d] s (fun v A => ∃ b w, v = .slice (some ⟨b, 0, none⟩) nw nw ∧ A = [.row b 3 false (ints w)] ∧ Mvd l w d l.length) := by
  subst hw
  exact moved_s n a cap l d s hs hn hl hd hb h64

theorem sound_s (n : Nat) (M : Nat) (al : Option Addr) (cl : Nat) (ls : List (List Int)) (s : St) (hs : Wf s) (hn : 3377699720527872 ≤ n) (hL : RowsE s 4 al ls) (hM : M ≤ 64) (h400 : ls.length ≤ 400) (hlm : lmB (M : Int) ls = true) (hSB : SB ls (M + 1)) : Spec Tryz.prog (tabK tabw) X (n + 6000) 43 [.agg ⟨[.int .i64 (M : Int), .slice al ls.length cl]⟩] s (fun v A => ((∃ r, r < M + 1 ∧ (stl ls (M + 1) (r + 1)).l = -1) ∧ v = .bool true ∧ A = []) ∨ ((∀ r, r < M + 1 → ¬ (stl ls (M + 1) (r + 1)).l = -1) ∧ v = .bool false ∧ A = [])) := by
 refine enter bw43_at rfl hs ?_
 unfold bw43
 have hlen := hL.len
 refine rS (kO rfl (a_box rfl rfl rfl (fun b1 => (kM rfl rfl (i_nil (rS (kO rfl (a_lda rfl (by decide) .here rfl (kO rfl (a_call rfl rfl (fun s1 h1 => newFlow_s _ M al cl ls s1 h1.wf (by omega) (hL.ext hs h1.2.1) hM h400 hlm) (fun v1 A1 q1 => ?_)))))))))))
 obtain ⟨bf2, bt3, bn4, O, B, rfl, rfl, hO⟩ := q1
 rw [List.append_assoc, List.cons_append, List.cons_append, List.cons_append, List.nil_append]
 refine kG rfl rfl (a_inl rfl rfl bw41_at rfl ?_)
 unfold bw41
 refine rS (kM rfl rfl (kM rfl rfl (i_nil (rS (kM rfl rfl (kO rfl (a_nilc rfl (kO rfl (a_fa rfl (kO rfl (a_fa rfl (kO rfl (a_ld rfl (.app .here) rfl (kO rfl (a_add rfl rfl (by omega) (kO rfl (a_mksI (m := M + 1) (c := M + 1) rfl rfl (by omega) (by omega) (by omega) (fun b5 => (kM rfl rfl (kO rfl (a_nilc rfl (kO rfl (a_fa rfl (kO rfl (a_fa rfl (kO rfl (a_ld rfl (.next (.app .here)) rfl (kO rfl (a_add rfl rfl (by omega) (kO rfl (a_mks5 (m := M + 1) (c := M + 1) rfl rfl (by omega) (by omega) (by omega) rep5 (fun b6 => (kM rfl rfl (kM rfl rfl (i_nil (rS (kM rfl rfl ?_)))))))))))))))))))))))))))))))))))))
 refine i_nil (rQ (rS (kM rfl rfl (kO rfl (a_nilc rfl (kO rfl (a_fa rfl (kO rfl (a_fa rfl (kO rfl (a_ld rfl (.next (.next (.app .here))) rfl (kO rfl (a_add rfl rfl (by omega) (kM rfl rfl (i_nil (r_block ?_))))))))))))))))
 rw [xs_zero (ls := ls) (N := M + 1), cvs_zero (N := M + 1)]
 refine r_loop (fun j e A => ∃ (r : Nat), e = [(0, .pointer (some ⟨bf2, 0, none⟩)), (4, .slice (some ⟨b5, 0, none⟩) (M + 1) (M + 1)), (5, .slice (some ⟨b6, 0, none⟩) (M + 1) (M + 1)), (6, .int .i64 (stl ls (M + 1) r).l), (26, .int .i64 ((M : Int) + 1)), (27, .int .i64 (r : Int))] ∧ A = (.row b6 93 false (cvs (stl ls (M + 1) r).c (M + 1)) :: (.row b5 3 false (ints (xs (stl ls (M + 1) r).x (M + 1))) :: (nobj B (nl ls ls.length) O ++ (.row bf2 64 false ([.int .i64 (M : Int), .slice al ls.length cl, .slice (some ⟨bt3, 0, none⟩) ls.length ls.length, .slice (some ⟨bn4, 0, none⟩) (M + 1) (M + 1)]) :: (.row bn4 25 false (nsl B (nl ls ls.length) (M + 1)) :: (.row bt3 3 false (ints (List.replicate ls.length 0)) :: (.row b1 24 false ([.int .i64 (M : Int), .slice al ls.length cl]) :: []))))))) ∧ j = M + 1 - r ∧ r ≤ M + 1 ∧ ∀ k, k < r → ¬ (stl ls (M + 1) (k + 1)).l = -1) 2000 1125899906842624 281474976710656 ?_ (j := _) (env2 := _) (A2 := _) ?_ ?_ ?_ ?_ ⟨0, rfl, rfl, rfl, Nat.zero_le _, (fun k hk => absurd hk (Nat.not_lt_zero k))⟩
 rotate_left
 ·omega
 ·omega
 ·exact (lc 0 rfl (lc 4 rfl (lc 5 rfl (lc 6 rfl (lc 26 rfl (lc 27 rfl Less.nil))))))
 ·exact (.cons_cons _ (.cons_cons _ (List.Sublist.append (List.Sublist.refl _) (.cons_cons _ (.cons_cons _ (.cons_cons _ (.cons_cons _ .slnil)))))))
 rintro n hn j _ _ ⟨r, rfl, rfl, rfl, hr, hne⟩
 refine rS (kO rfl (a_lss rfl rfl (fun h7 => ?_) (fun h7 => ?_)))
 ·refine i_nil (rQ (r_cond_t rfl (r_skip (then_n (rQ (r_block (rS (kM rfl rfl (kM rfl rfl (kM rfl rfl (kG rfl rfl (a_inl rfl rfl bw45_at rfl ?_))))))))))))
  unfold bw45
  refine rS (kO rfl (a_box rfl rfl rfl (fun b8 => (kO rfl (a_box rfl rfl rfl (fun b9 => (kM rfl rfl (i_nil (rS (kO rfl (a_new rfl rfl (fun b10 => (kZ rfl (a_st rfl rfl .here rfl rfl (i_nil (rQ (rS (kM rfl rfl (kO rfl (a_nilc rfl (kO rfl (a_fa rfl (kO rfl (a_fa rfl (kO rfl (a_ld rfl (.next (.next (.next (.next (.next (.app .here)))))) rfl (kO rfl (a_add rfl rfl (by omega) (kM rfl rfl (i_nil (r_block ?_)))))))))))))))))))))))))))))))
  refine r_loopD (fun j e D A => ∃ (v : Nat) (qs : List Nat), qs = D ∧ e = [(0, .pointer (some ⟨bf2, 0, none⟩)), (4, .pointer (some ⟨b8, 0, none⟩)), (5, .pointer (some ⟨b9, 0, none⟩)), (7, .pointer (some ⟨b10, 0, none⟩)), (16, .int .i64 ((M : Int) + 1)), (17, .int .i64 (v : Int))] ∧ A = (qs.map Ob.dfr ++ (.row b10 3 false ([.int .i64 (lwS ls (st0 (stl ls (M + 1) r)) v).l]) :: (.row b9 66 false ([.slice (some ⟨b6, 0, none⟩) (M + 1) (M + 1)]) :: (.row b8 25 false ([.slice (some ⟨b5, 0, none⟩) (M + 1) (M + 1)]) :: (.row b6 93 false (cvs (lwS ls (st0 (stl ls (M + 1) r)) v).c (M + 1)) :: (.row b5 3 false (ints (xs (lwS ls (st0 (stl ls (M + 1) r)) v).x (M + 1))) :: (nobj B (nl ls ls.length) O ++ (.row bf2 64 false ([.int .i64 (M : Int), .slice al ls.length cl, .slice (some ⟨bt3, 0, none⟩) ls.length ls.length, .slice (some ⟨bn4, 0, none⟩) (M + 1) (M + 1)]) :: (.row bn4 25 false (nsl B (nl ls ls.length) (M + 1)) :: (.row bt3 3 false (ints (List.replicate ls.length 0)) :: (.row b1 24 false ([.int .i64 (M : Int), .slice al ls.length cl]) :: []))))))))))) ∧ j = M + 1 - v ∧ v ≤ M + 1) 1200 562949953421312 281474976710656 ?_ (j := _) (env2 := _) (A2 := _) ?_ ?_ ?_ ?_ ⟨0, [], rfl, rfl, rfl, rfl, Nat.zero_le _⟩
  rotate_left
  ·omega
  ·omega
  ·exact (lc 0 rfl (lc 4 rfl (lc 5 rfl (lc 7 rfl (lc 16 rfl (lc 17 rfl Less.nil))))))
  ·exact (.cons_cons _ (.cons_cons _ (.cons_cons _ (.cons_cons _ (.cons_cons _ (List.Sublist.append (List.Sublist.refl _) (.cons_cons _ (.cons_cons _ (.cons_cons _ (.cons_cons _ .slnil))))))))))
  rintro n hn j _ _ _ ⟨v, qs, rfl, rfl, rfl, rfl, hv⟩
  have hnl9 := nl_le (ls := ls) ls.length v
  refine rS (kO rfl (a_lss rfl rfl (fun h11 => ?_) (fun h11 => ?_)))
  ·refine i_nil (rQ (r_cond_t rfl (r_skip (then_n (rQ (r_block (rS (kM rfl rfl (kO rfl (a_new rfl rfl (fun b12 => (kZ rfl (a_st rfl rfl .here rfl rfl (i_nil (rQ (rS (kO rfl (a_ld rfl (.next (.app (.next (.next .here)))) rfl (kO rfl (a_ld rfl .here rfl (kO rfl (a_ia (j := v) rfl rfl (by omega) (by omega) (kO rfl (a_ldX (x := ((lwS ls (st0 (stl ls (M + 1) r)) v).x) (v)) rfl (.next (.app (.next (.next (.next (.next .here)))))) (by rw [xs_len]; omega) (xs_get (by omega)) (kO rfl (a_eql rfl rfl (fun h13 => ?_) (fun h13 => ?_)))))))))))))))))))))))))))
   ·refine i_nil (r_cond_t rfl (r_exit (then_e (block_hit (then_n (rI (kO rfl (a_add rfl rfl (by omega) (kM rfl rfl (i_nil (then_n ?_)))))))))))
    exact ⟨_, _, _, (show M + 1 - (v + 1) < M + 1 - v by omega), (lc 0 rfl (lc 4 rfl (lc 5 rfl (lc 7 rfl (lc 16 rfl (lc 17 rfl Less.nil)))))), (.cons _ (List.Sublist.append (List.Sublist.refl _) (.cons_cons _ (.cons_cons _ (.cons_cons _ (.cons_cons _ (.cons_cons _ (List.Sublist.append (List.Sublist.refl _) (.cons_cons _ (.cons_cons _ (.cons_cons _ (.cons_cons _ .slnil)))))))))))), ⟨v + 1, qs, rfl, rfl, (by rw [lws_free (by assumption)]), rfl, by omega⟩⟩
   ·refine i_nil (r_cond_f rfl (r_skip (then_n (rS (kM rfl rfl (kO rfl (a_ld rfl .here rfl (kG rfl rfl (a_inl rfl rfl bw69_at rfl ?_)))))))))
    unfold bw69
    refine rS (kO rfl (a_box rfl rfl rfl (fun b14 => (kO rfl (a_box rfl rfl rfl (fun b15 => (kM rfl rfl (i_nil (rS (kO rfl (a_fn rfl rfl (kM rfl rfl (i_nil (r_ret (endD1 rfl .nil (i_nil (r_block (r_rangeV rfl bw87_at rfl (fun q16 l17 LO18 BO19 hLO18 hBO19 => ?_)))))))))))))))))))
    unfold bw87
    refine rS (kO rfl (a_ld rfl (.next (.next (.next .here))) rfl (kO rfl (a_nilc rfl (kO rfl (a_fa rfl (kO rfl (a_ld rfl (.next (.next (.next (.next (.next (.app (.next (.next (.next (.next (.next (.app .here)))))))))))) rfl (kO rfl (a_ld rfl (.next (.next .here)) rfl (kO rfl (a_ia (j := v) rfl rfl (by omega) (by omega) (kO rfl (a_ld rfl (.next (.next (.next (.next (.next (.app (.next (.next (.next (.next (.next (.app (.next .here))))))))))))) (nsl_get (by omega)) (kO rfl (a_lenN rfl (kM rfl rfl (i_nil (r_block ?_)))))))))))))))))))
    refine r_loop (fun j e A => ∃ (q : Nat), e = [(0, .func (.yield l17) ⟨[]⟩ ⟨[]⟩), (1, .pointer (some ⟨b14, 0, none⟩)), (2, .pointer (some ⟨b15, 0, none⟩)), (14, nsv B (nl ls ls.length) v), (15, .int .i64 ((nl ls ls.length v).length : Int)), (16, .int .i64 (q : Int))] ∧ A = (LO18 :: (.dfr q16 :: (.row b15 3 false ([.int .i64 (v : Int)]) :: (.row b14 41 false ([.pointer (some ⟨bf2, 0, none⟩)]) :: (.row b12 3 false ([.int .i64 (v : Int)]) :: (qs.map Ob.dfr ++ (.row b10 3 false ([.int .i64 (rwS ls (lwS ls (st0 (stl ls (M + 1) r)) v) v q).l]) :: (.row b9 66 false ([.slice (some ⟨b6, 0, none⟩) (M + 1) (M + 1)]) :: (.row b8 25 false ([.slice (some ⟨b5, 0, none⟩) (M + 1) (M + 1)]) :: (.row b6 93 false (cvs (rwS ls (lwS ls (st0 (stl ls (M + 1) r)) v) v q).c (M + 1)) :: (.row b5 3 false (ints (xs (rwS ls (lwS ls (st0 (stl ls (M + 1) r)) v) v q).x (M + 1))) :: (nobj B (nl ls ls.length) O ++ (.row bf2 64 false ([.int .i64 (M : Int), .slice al ls.length cl, .slice (some ⟨bt3, 0, none⟩) ls.length ls.length, .slice (some ⟨bn4, 0, none⟩) (M + 1) (M + 1)]) :: (.row bn4 25 false (nsl B (nl ls ls.length) (M + 1)) :: (.row bt3 3 false (ints (List.replicate ls.length 0)) :: (.row b1 24 false ([.int .i64 (M : Int), .slice al ls.length cl]) :: [])))))))))))))))) ∧ j = (nl ls ls.length v).length - q ∧ q ≤ (nl ls ls.length v).length) 800 281474976710656 281474976710656 ?_ (j := _) (env2 := _) (A2 := _) ?_ ?_ ?_ ?_ ⟨0, rfl, rfl, rfl, Nat.zero_le _⟩
    rotate_left
    ·omega
    ·omega
    ·exact (lc 0 rfl (lc 1 rfl (lc 2 rfl (lc 14 rfl (lc 15 rfl (lc 16 rfl Less.nil))))))
    ·exact (.cons_cons _ (.cons_cons _ (.cons_cons _ (.cons_cons _ (.cons_cons _ (List.Sublist.append (List.Sublist.refl _) (.cons_cons _ (.cons_cons _ (.cons_cons _ (.cons_cons _ (.cons_cons _ (List.Sublist.append (List.Sublist.refl _) (.cons_cons _ (.cons_cons _ (.cons_cons _ (.cons_cons _ .slnil))))))))))))))))
    rintro n hn j _ _ ⟨q, rfl, rfl, rfl, hq⟩
    refine rS (kO rfl (a_lss rfl rfl (fun h20 => ?_) (fun h20 => ?_)))
    ·have hq9 : q < (nl ls ls.length v).length := by omega
     obtain ⟨li, hi0, hil, hnam⟩ := nl_mem hq9
     obtain ⟨q4, o4, y0, y1, y2, y3, ahL, hx, hat, i0, i1, i2, i3⟩ := hL.row4 (k := li) (by omega)
     have hat2 := hat
     obtain ⟨d0, d1, d2, d3, _⟩ := hat2
     have := i0.lo; have := i0.hi
     have := i1.lo; have := i1.hi
     have := i2.lo; have := i2.hi
     have := i3.lo; have := i3.hi
     have hc4 := lmB_at hlm hx
     have hnm := nam_of hnam hx
     obtain ⟨u0, rfl⟩ : ∃ q : Nat, y0 = (q : Int) := ⟨y0.toNat, by omega⟩
     obtain ⟨u1, rfl⟩ : ∃ q : Nat, y1 = (q : Int) := ⟨y1.toNat, by omega⟩
     refine i_nil (rQ (r_cond_t rfl (r_skip (then_n (rQ (r_block (rS (kO rfl (a_iaN (j := q) rfl rfl (by omega) (by omega) (kO rfl (a_ldX (x := (li : Int)) rfl (.next (.next (.next (.next (.next (.app (.next (.next (.next (.next (.next (own_nobj ((hO.2 _ (by omega)).2 (fun e => by rw [e] at hq9; exact absurd hq9 (Nat.not_lt_zero _))))))))))))))) (by omega) hi0 (kM rfl rfl (i_nil (rS (kO rfl (a_ld rfl (.next (.next (.next .here))) rfl (kO rfl (a_nilc rfl (kO rfl (a_fa rfl (kO rfl (a_fa rfl (kO rfl (a_ld rfl (.next (.next (.next (.next (.next (.app (.next (.next (.next (.next (.next (.app .here)))))))))))) rfl (kM rfl rfl (kO rfl (a_iaA (j := li) ahL rfl rfl (by first | rfl | omega) (by first | decide | omega) (kO rfl (a_ldar rfl (by decide) (by assumption) rfl (kO rfl (a_new rfl rfl (fun b21 => (kZ rfl (a_sta rfl rfl .here rfl rfl rfl rfl (i_nil ?_)))))))))))))))))))))))))))))))))))
     refine rS (kM rfl rfl (kO rfl (a_ld rfl (.next (.next (.next .here))) rfl (kO rfl (a_fa rfl (kO rfl (a_ld rfl .here rfl (kO rfl (a_fa rfl (kO rfl (a_ld rfl .here rfl (kO rfl (a_build rfl rfl (kO rfl (a_new rfl rfl (fun b22 => (kZ rfl (a_sta rfl rfl .here rfl rfl rfl rfl (i_nil (rQ (rS (kO rfl (a_fa rfl (kO rfl (a_ld rfl (.next .here) rfl (kO rfl (a_ld rfl (.next (.next (.next (.next .here)))) rfl (kO rfl (a_eql rfl rfl (fun h23 => ?_) (fun h23 => ?_))))))))))))))))))))))))))))))
     ·have hu1 : v = u1 := by omega
      subst hu1
      have hb9 := hx
      refine i_nil (r_cond_t rfl (rI (kM rfl rfl (kO rfl (a_ld rfl (.next (.next (.next (.next .here)))) rfl (kO rfl (a_fa rfl (kO rfl (a_ld rfl (.next .here) rfl (kO rfl (a_fa rfl (kO rfl (a_ld rfl (.next .here) rfl (kO rfl (a_neg rfl (by omega) (kO rfl (a_build rfl rfl (kZ rfl (a_sta rfl rfl .here rfl rfl rfl rfl (i_nil (then_n (rQ (rS (kO rfl (a_fa rfl (kO rfl (a_ld rfl .here rfl (kM rfl rfl (kG rfl rfl (a_ld rfl (.next (.next (.next (.next (.next .here))))) rfl (kG rfl rfl (a_nilc rfl (kG rfl rfl (a_fa rfl (kG rfl rfl (a_ld rfl (.next (.next (.next (.next (.next (.next (.next (.app (.next (.next (.next (.next (.next (.app .here)))))))))))))) rfl (kG rfl rfl (a_mov rfl ?_))))))))))))))))))))))))))))))))))))))
      refine kG rfl rfl (a_ia (j := li) rfl rfl (by omega) (by omega) (kG rfl rfl (a_ldX (x := 0) rfl (.next (.next (.next (.next (.next (.next (.next (.app (.next (.next (.next (.next (.next (.app (.next (.next .here)))))))))))))))) (by rw [List.length_replicate]; omega) rep_get (kG rfl rfl (a_eql rfl rfl (fun _ => (kO rfl (a_pick_t rfl rfl rfl (i_nil (r_cond_t rfl (r_exit (then_e (block_hit (then_n (rI (kO rfl (a_add rfl rfl (by omega) (kM rfl rfl (i_nil (then_n ?_))))))))))))))) (fun h => absurd h (by decide)))))))
      exact ⟨rfl, _, _, _, (show (nl ls ls.length v).length - (q + 1) < (nl ls ls.length v).length - q by omega), (lc 0 rfl (lc 1 rfl (lc 2 rfl (lc 14 rfl (lc 15 rfl (lc 16 rfl Less.nil)))))), (.cons _ (.cons _ (.cons_cons _ (.cons_cons _ (.cons_cons _ (.cons_cons _ (.cons_cons _ (List.Sublist.append (List.Sublist.refl _) (.cons_cons _ (.cons_cons _ (.cons_cons _ (.cons_cons _ (.cons_cons _ (List.Sublist.append (List.Sublist.refl _) (.cons_cons _ (.cons_cons _ (.cons_cons _ (.cons_cons _ .slnil)))))))))))))))))), ⟨q + 1, rfl, (by first | (rw [rws_back hi0 hb9]; done) | (rw [rws_less hi0 hx hnb9 hls9]; done) | (rw [rws_less hi0 hx hnb9 hls9]; rfl) | (rw [rws_more hi0 hx hgr9]; done)), rfl, by omega⟩⟩
     ·have hnb9 := h23
      refine i_nil (r_cond_f rfl (r_skip (then_n (rQ (rS (kO rfl (a_fa rfl (kO rfl (a_ld rfl .here rfl (kM rfl rfl (i_no rfl rfl (i_no rfl rfl (i_no rfl rfl (i_no rfl rfl (i_no rfl rfl (i_no rfl rfl (i_no rfl rfl (i_no rfl rfl (kO rfl (a_pick_f rfl rfl rfl (i_nil (r_cond_f rfl (r_skip (then_n (rS (kM rfl rfl ?_))))))))))))))))))))))))))
      refine kO rfl (a_lda rfl (by decide) .here rfl (kG rfl rfl (a_yieldV rfl rfl hLO18 hBO19 (by simp) rfl rfl (rI (kO rfl (a_new rfl rfl (fun b25 => (kZ rfl (a_sta rfl rfl .here rfl rfl rfl rfl (i_nil (⟨_, (.next (.next (.next .here))), (r_block (rS (kO rfl (a_ld rfl (.next (.next (.next (.next (.next (.next (.next (.next (.app (.next (.next .here))))))))))) rfl (kO rfl (a_ld rfl (.next (.next (.next (.next (.next (.next (.next .here))))))) rfl (kO rfl (a_ia (j := v) rfl rfl (by omega) (by omega) (kO rfl (a_ldX (x := ((rwS ls (lwS ls (st0 (stl ls (M + 1) r)) v) v q).x) (v)) rfl (.next (.next (.next (.next (.next (.next (.next (.next (.app (.next (.next (.next (.next .here))))))))))))) (by rw [xs_len]; omega) (xs_get (by omega)) (kO rfl (a_fa rfl (kO rfl (a_ld rfl .here rfl ?_))))))))))))))⟩)))))))))))
      have hb1 := hSB.bd r v q v (by omega) (by omega) (by omega) (by omega)
      refine kO rfl (a_add rfl rfl (by omega) (kM rfl rfl (i_nil (rS (kM rfl rfl (kO rfl (a_ld rfl (.next (.next (.next (.next (.next (.next (.next (.next (.app (.next (.next .here))))))))))) rfl (kO rfl (a_fa rfl (kO rfl (a_ld rfl .here rfl (kO rfl (a_ia (j := u1) rfl rfl (by omega) (by omega) (kO rfl (a_ldX (x := ((rwS ls (lwS ls (st0 (stl ls (M + 1) r)) v) v q).x) (u1)) rfl (.next (.next (.next (.next (.next (.next (.next (.next (.app (.next (.next (.next (.next .here))))))))))))) (by rw [xs_len]; omega) (xs_get (by omega)) (kO rfl (a_lss rfl rfl (fun h26 => ?_) (fun h26 => ?_))))))))))))))))))
      ·have hls9 := h26
       refine i_nil (r_cond_t rfl (rI (kO rfl (a_ld rfl (.next (.next (.next (.next (.next (.next (.next (.next (.app (.next (.next .here))))))))))) rfl (kO rfl (a_fa rfl (kO rfl (a_ld rfl .here rfl (kO rfl (a_ld rfl (.next (.next (.next (.next (.next (.next (.next (.next (.app (.next .here)))))))))) rfl (kO rfl (a_fa rfl (kO rfl (a_ld rfl .here rfl (kM rfl rfl (kO rfl (a_lda rfl (by decide) .here rfl (kO rfl (a_fa rfl (kO rfl (a_ld rfl .here rfl (kO rfl (a_ia (j := u1) rfl rfl (by omega) (by omega) (kZ rfl (a_stI rfl rfl (by rw [xs_set]; exact (.next (.next (.next (.next (.next (.next (.next (.next (.app (.next (.next (.next (.next .here)))))))))))))) (by rw [xs_len]; omega) (kZ rfl (a_again rfl rfl .here rfl (by simp [eqV, eqA, eqL, kindEq, intEq_eq, eqV_sl hL.spot]) (kZ rfl (a_againa rfl rfl (by decide) .here rfl (by simp [eqL, eqV, eqA, kindEq, intEq_eq, eqV_sl hL.spot]) (kZ rfl (a_again rfl rfl .here rfl (by simp [eqV, eqA, eqL, kindEq, intEq_eq, eqV_sl hL.spot]) (kZ rfl (a_again rfl rfl (.next (.next (.next (.next (.next (.next (.next (.next (.app (.next .here)))))))))) rfl (by simp [eqV, eqA, eqL, kindEq, intEq_eq, eqV_sl hL.spot]) (kO rfl (a_ia (j := u1) rfl rfl (by omega) (by omega) (kZ rfl (a_sta rfl rfl (.next (.next (.next (.next (.next (.next (.next (.next (.app (.next (.next (.next .here)))))))))))) (cam_over (p := (_, _, _, _)) (by omega)) (by rw [Nat.ble_eq, cvs_len]; omega) rfl rfl (kZ rfl (a_again rfl rfl .here rfl (by simp [eqV, eqA, eqL, kindEq, intEq_eq, eqV_sl hL.spot]) (kZ rfl (a_st rfl rfl (.next (.next (.next (.next (.next (.next (.next (.next (.app .here))))))))) rfl rfl (i_nil ?_))))))))))))))))))))))))))))))))))))))))))
       refine block_n (⟨_, (.next (.next (.next .here))), (kO rfl (a_not rfl (i_nil (r_cond_f rfl (r_skip (block_n (then_n (rI (kO rfl (a_add rfl rfl (by omega) (kM rfl rfl (i_nil (then_n ?_)))))))))))))⟩)
       exact ⟨rfl, _, _, _, (show (nl ls ls.length v).length - (q + 1) < (nl ls ls.length v).length - q by omega), (lc 0 rfl (lc 1 rfl (lc 2 rfl (lc 14 rfl (lc 15 rfl (lc 16 rfl Less.nil)))))), (.cons _ (.cons _ (.cons _ (.cons_cons _ (.cons_cons _ (.cons_cons _ (.cons_cons _ (.cons_cons _ (List.Sublist.append (List.Sublist.refl _) (.cons_cons _ (.cons_cons _ (.cons_cons _ (.cons_cons _ (.cons_cons _ (List.Sublist.append (List.Sublist.refl _) (.cons_cons _ (.cons_cons _ (.cons_cons _ (.cons_cons _ .slnil))))))))))))))))))), ⟨q + 1, rfl, (by first | (rw [rws_back hi0 hb9]; done) | (rw [rws_less hi0 hx hnb9 hls9]; done) | (rw [rws_less hi0 hx hnb9 hls9]; rfl) | (rw [rws_more hi0 hx hgr9]; done)), rfl, by omega⟩⟩
      ·have hgr9 := h26
       refine i_nil (r_cond_f rfl (r_skip (block_n (⟨_, (.next (.next (.next .here))), (kO rfl (a_not rfl (i_nil (r_cond_f rfl (r_skip (block_n (then_n (rI (kO rfl (a_add rfl rfl (by omega) (kM rfl rfl (i_nil (then_n ?_)))))))))))))⟩))))
       exact ⟨rfl, _, _, _, (show (nl ls ls.length v).length - (q + 1) < (nl ls ls.length v).length - q by omega), (lc 0 rfl (lc 1 rfl (lc 2 rfl (lc 14 rfl (lc 15 rfl (lc 16 rfl Less.nil)))))), (.cons _ (.cons _ (.cons _ (.cons_cons _ (.cons_cons _ (.cons_cons _ (.cons_cons _ (.cons_cons _ (List.Sublist.append (List.Sublist.refl _) (.cons_cons _ (.cons_cons _ (.cons_cons _ (.cons_cons _ (.cons_cons _ (List.Sublist.append (List.Sublist.refl _) (.cons_cons _ (.cons_cons _ (.cons_cons _ (.cons_cons _ .slnil))))))))))))))))))), ⟨q + 1, rfl, (by first | (rw [rws_back hi0 hb9]; done) | (rw [rws_less hi0 hx hnb9 hls9]; done) | (rw [rws_less hi0 hx hnb9 hls9]; rfl) | (rw [rws_more hi0 hx hgr9]; done)), rfl, by omega⟩⟩
    ·have hql : q = (nl ls ls.length v).length := by omega
     subst hql
     refine i_nil (rQ (r_cond_f rfl (r_exit (then_e (then_e (block_hit (endD0n .nil (.inl ⟨_, .here, (block_n (block_n (then_n (rI (kO rfl (a_add rfl rfl (by omega) (kM rfl rfl (i_nil (then_n ?_)))))))))⟩))))))))
     exact ⟨_, _, _, (show M + 1 - (v + 1) < M + 1 - v by omega), (lc 0 rfl (lc 4 rfl (lc 5 rfl (lc 7 rfl (lc 16 rfl (lc 17 rfl Less.nil)))))), (.cons_cons _ (.cons _ (.cons _ (.cons _ (List.Sublist.append (List.Sublist.refl _) (.cons_cons _ (.cons_cons _ (.cons_cons _ (.cons_cons _ (.cons_cons _ (List.Sublist.append (List.Sublist.refl _) (.cons_cons _ (.cons_cons _ (.cons_cons _ (.cons_cons _ .slnil))))))))))))))), ⟨v + 1, q16 :: qs, rfl, rfl, (by rw [lws_go (by assumption)]; rfl), rfl, by omega⟩⟩
  ·have hvN : v = M + 1 := by omega
   subst hvN
   refine i_nil (rQ (r_cond_f rfl (r_exit (then_e (then_e (block_hit (then_n (rS (kO rfl (a_ld rfl (.app .here) rfl (kM rfl rfl (i_nil (r_ret (endD1 rfl deld_map (kM rfl rfl (i_nil (rS (kM rfl rfl (kO rfl (a_eql rfl rfl (fun h27 => ?_) (fun h27 => ?_)))))))))))))))))))))
   ·refine i_nil (r_cond_t rfl (rS (kM rfl rfl (kM rfl rfl (kO rfl (a_ia (j := 0) rfl rfl (by omega) (by omega) (kO rfl (a_ldX (x := ((stl ls (M + 1) (r + 1)).x) (0)) rfl (.next (.next (.next (.next .here)))) (by rw [xs_len]; omega) (xs_get (by omega)) ?_))))))))
    have hb0 := hSB.xb (r + 1) 0 (by omega) (by omega)
    refine kO rfl (a_neg rfl (by omega) (kO rfl (a_call rfl rfl (fun s1 h1 => moved_n _ _ _ _ (xs (stl ls (M + 1) (r + 1)).x (M + 1)) _ s1 h1.wf (by omega) xs_len.symm (IntsE.own (h1.own (.next (.next (.next (.next .here))))) (fun z hz => by obtain ⟨k, hk, rfl⟩ := List.mem_map.1 hz; have := hSB.xb (r + 1) k (by omega) (List.mem_range.1 hk); omega) (by rw [xs_len]; omega)) (by omega) (fun i hi => by rw [xs_len] at hi; rw [xs_get hi]; have := hSB.xb (r + 1) i (by omega) hi; omega) (by rw [xs_len]; omega)) (fun v1 A1 q1 => ?_))))
    obtain ⟨bm28, wm, rfl, rfl, hmv⟩ := q1
    refine kM rfl rfl (kM rfl rfl (i_nil (r_ret (block_r (then_r (then_r (block_r (then_r (endD2 rfl rfl .nil (kM rfl rfl (kO rfl (a_ext rfl rfl (kO rfl (a_ext rfl rfl (kM rfl rfl (kM rfl rfl (i_nil (rS (kM rfl rfl (kO rfl (a_len0 rfl (kO rfl (a_eql rfl rfl (fun _ => (kM rfl rfl (i_nil (r_ret ?_)))) (fun h => absurd h (by decide)))))))))))))))))))))))))
    first
     | (exfalso; omega)
     | exact end1 rfl (.inl ⟨⟨r, by omega, by assumption⟩, rfl, rfl⟩)
   ·refine i_nil (r_cond_f rfl (r_skip (block_n (then_n (rI (kO rfl (a_add rfl rfl (by omega) (kM rfl rfl (i_nil (then_n ?_))))))))))
    exact ⟨rfl, _, _, _, (show M + 1 - (r + 1) < M + 1 - r by omega), (lc 0 rfl (lc 4 rfl (lc 5 rfl (lc 6 rfl (lc 26 rfl (lc 27 rfl Less.nil)))))), (.cons _ (.cons _ (.cons _ (.cons_cons _ (.cons_cons _ (List.Sublist.append (List.Sublist.refl _) (.cons_cons _ (.cons_cons _ (.cons_cons _ (.cons_cons _ .slnil)))))))))), ⟨r + 1, rfl, rfl, rfl, by omega, (fun k hk => by by_cases e : k = r; exact e ▸ (by assumption); exact hne k (by omega))⟩⟩
 ·have hrN : r = M + 1 := by omega
  subst hrN
  have hne2 := hne
  obtain ⟨l0, hl0, hle⟩ : ∃ u : Nat, u < M + 1 ∧ (stl ls (M + 1) (M + 1)).l = (u : Int) := (hSB.last M (by omega)).resolve_left (hne M (by omega))
  rw [hle]
  obtain ⟨p, hp1, hp2, hp3⟩ := itr_back hSB.par hl0
  have hat9 := itr_lt hSB.par hl0 (M + 1)
  refine i_nil (rQ (r_cond_f rfl (r_exit (then_e (then_e (block_hit (then_n (rS (kM rfl rfl (kM rfl rfl (kG rfl rfl (a_inl rfl rfl bw67_at rfl ?_))))))))))))
  unfold bw67
  refine rS (kM rfl rfl (i_nil (rQ (rS (kM rfl rfl (kO rfl (a_len rfl (kM rfl rfl (i_nil (r_block ?_))))))))))
  refine r_loop (fun j e A => ∃ (m : Nat), e = [(0, .slice (some ⟨b6, 0, none⟩) (M + 1) (M + 1)), (1, .int .i64 ((itr (stl ls (M + 1) (M + 1)).c l0 m : Nat) : Int)), (8, .int .i64 ((M + 1 : Nat) : Int)), (9, .int .i64 (m : Int))] ∧ A = (.row b6 93 false (cvs (stl ls (M + 1) (M + 1)).c (M + 1)) :: (.row b5 3 false (ints (xs (stl ls (M + 1) (M + 1)).x (M + 1))) :: (nobj B (nl ls ls.length) O ++ (.row bf2 64 false ([.int .i64 (M : Int), .slice al ls.length cl, .slice (some ⟨bt3, 0, none⟩) ls.length ls.length, .slice (some ⟨bn4, 0, none⟩) (M + 1) (M + 1)]) :: (.row bn4 25 false (nsl B (nl ls ls.length) (M + 1)) :: (.row bt3 3 false (ints (List.replicate ls.length 0)) :: (.row b1 24 false ([.int .i64 (M : Int), .slice al ls.length cl]) :: []))))))) ∧ j = M + 1 - m ∧ m ≤ M + 1) 300 0 281474976710656 ?_ (j := _) (env2 := _) (A2 := _) ?_ ?_ ?_ ?_ ⟨0, rfl, rfl, rfl, Nat.zero_le _⟩
  rotate_left
  ·omega
  ·omega
  ·exact (lc 0 rfl (lc 1 rfl (lc 8 rfl (lc 9 rfl Less.nil))))
  ·exact (.cons_cons _ (.cons_cons _ (List.Sublist.append (List.Sublist.refl _) (.cons_cons _ (.cons_cons _ (.cons_cons _ (.cons_cons _ .slnil)))))))
  rintro n hn j _ _ ⟨m, rfl, rfl, rfl, hm⟩
  have hit := itr_lt hSB.par hl0 m
  refine rS (kO rfl (a_lss rfl rfl (fun h30 => ?_) (fun h30 => ?_)))
  ·refine i_nil (rQ (r_cond_t rfl (r_skip (then_n (rQ (r_block (rI (kM rfl rfl (kM rfl rfl (kO rfl (a_ia (j := (itr (stl ls (M + 1) (M + 1)).c l0 m)) rfl rfl (by omega) (by omega) (kO rfl (a_fa rfl (kO rfl (a_ld rfl .here (cvs_from (by omega)) (kM rfl rfl (i_nil (block_n (then_n (rI (kO rfl (a_add rfl rfl (by omega) (kM rfl rfl (i_nil (then_n ?_)))))))))))))))))))))))))
   exact ⟨rfl, _, _, _, (show M + 1 - (m + 1) < M + 1 - m by omega), (lc 0 rfl (lc 1 rfl (lc 8 rfl (lc 9 rfl Less.nil)))), (.cons_cons _ (.cons_cons _ (List.Sublist.append (List.Sublist.refl _) (.cons_cons _ (.cons_cons _ (.cons_cons _ (.cons_cons _ .slnil))))))), ⟨m + 1, rfl, rfl, rfl, by omega⟩⟩
  ·have hmN : m = M + 1 := by omega
   subst hmN
   refine i_nil (rQ (r_cond_f rfl (r_exit (then_e (then_e (block_hit (then_n (rS (kM rfl rfl (kM rfl rfl (kO rfl (a_ia (j := (itr (stl ls (M + 1) (M + 1)).c l0 (M + 1))) rfl rfl (by omega) (by omega) (kO rfl (a_fa rfl (kO rfl (a_ld rfl .here (cvs_lim (by omega)) (kO rfl (a_lit rfl rfl rfl (fun b31 => (kM rfl rfl (i_nil (rQ (rS (kM rfl rfl (kM rfl rfl (kO rfl (a_ia (j := (itr (stl ls (M + 1) (M + 1)).c l0 (M + 1))) rfl rfl (by omega) (by omega) (kO rfl (a_fa rfl (kO rfl (a_ld rfl (.next .here) (cvs_from (by omega)) ?_)))))))))))))))))))))))))))))))
   refine kM rfl rfl (i_nil (r_block ?_))
   refine r_loop (fun j e A => ∃ (m b cp : Nat) (op : Bool), e = [(0, .slice (some ⟨b6, 0, none⟩) (M + 1) (M + 1)), (1, .int .i64 (((itr (stl ls (M + 1) (M + 1)).c l0 (M + 1)) : Nat) : Int)), (5, .slice (some ⟨b, 0, none⟩) (m + 1) cp), (6, .int .i64 ((itr (stl ls (M + 1) (M + 1)).c (itr (stl ls (M + 1) (M + 1)).c l0 (M + 1)) (m + 1) : Nat) : Int))] ∧ A = (.row b 3 op (ints (cyl (stl ls (M + 1) (M + 1)).c (itr (stl ls (M + 1) (M + 1)).c l0 (M + 1)) m)) :: (.row b6 93 false (cvs (stl ls (M + 1) (M + 1)).c (M + 1)) :: (.row b5 3 false (ints (xs (stl ls (M + 1) (M + 1)).x (M + 1))) :: (nobj B (nl ls ls.length) O ++ (.row bf2 64 false ([.int .i64 (M : Int), .slice al ls.length cl, .slice (some ⟨bt3, 0, none⟩) ls.length ls.length, .slice (some ⟨bn4, 0, none⟩) (M + 1) (M + 1)]) :: (.row bn4 25 false (nsl B (nl ls ls.length) (M + 1)) :: (.row bt3 3 false (ints (List.replicate ls.length 0)) :: (.row b1 24 false ([.int .i64 (M : Int), .slice al ls.length cl]) :: [])))))))) ∧ j = p - m ∧ m + 1 ≤ p ∧ FT op cp m) 400 0 281474976710656 ?_ (j := _) (env2 := _) (A2 := _) ?_ ?_ ?_ ?_ ⟨0, b31, 1, false, rfl, rfl, rfl, (by omega), (.inr ⟨rfl, rfl, rfl⟩)⟩
   rotate_left
   ·omega
   ·omega
   ·exact (lc 0 rfl (lc 1 rfl (lc 5 rfl (lc 6 rfl Less.nil))))
   ·exact (.cons_cons _ (.cons_cons _ (.cons_cons _ (List.Sublist.append (List.Sublist.refl _) (.cons_cons _ (.cons_cons _ (.cons_cons _ (.cons_cons _ .slnil))))))))
   rintro n hn j _ _ ⟨m, b, cp, op, rfl, rfl, rfl, hm, hT⟩
   have hit := itr_lt hSB.par hat9 (m + 1)
   refine rQ (rS (kM rfl rfl (kM rfl rfl (kO rfl (a_neq rfl rfl (fun h32 => ?_) (fun h32 => ?_))))))
   ·have hmp : ¬ m + 1 = p := fun e => by (have e2 : itr (stl ls (M + 1) (M + 1)).c (itr (stl ls (M + 1) (M + 1)).c l0 (M + 1)) (m + 1) = (itr (stl ls (M + 1) (M + 1)).c l0 (M + 1)) := by rw [e]; exact hp3); omega
    refine i_nil (r_cond_t rfl (r_skip (then_n (rQ (r_block (rI (kM rfl rfl (kM rfl rfl (kM rfl rfl (kO rfl (a_ia (j := (itr (stl ls (M + 1) (M + 1)).c (itr (stl ls (M + 1) (M + 1)).c l0 (M + 1)) (m + 1))) rfl rfl (by omega) (by omega) (kO rfl (a_fa rfl (kO rfl (a_ld rfl (.next .here) (cvs_lim (by omega)) (kO rfl (a_lit rfl rfl rfl (fun b33 => (kO rfl (a_app rfl rfl (Src.own .here rfl (by simp)) (.next .here) (by rw [ints_len, cyl_len, Nat.mul_one]) (tight_of hT) (by decide) (by omega) (by omega) (fun b34 => (kM rfl rfl (i_nil (block_n (then_n (rI (kM rfl rfl (kM rfl rfl (kO rfl (a_ia (j := (itr (stl ls (M + 1) (M + 1)).c (itr (stl ls (M + 1) (M + 1)).c l0 (M + 1)) (m + 1))) rfl rfl (by omega) (by omega) (kO rfl (a_fa rfl ?_))))))))))))))))))))))))))))))))
    refine kO rfl (a_ld rfl (.next (.next .here)) (cvs_from (by omega)) (kM rfl rfl (i_nil (then_n ?_))))
    exact ⟨rfl, _, _, _, (show p - (m + 1) < p - m by omega), (lc 0 rfl (lc 1 rfl (lc 5 rfl (lc 6 rfl Less.nil)))), (.cons_cons _ (.cons _ (.cons_cons _ (.cons_cons _ (List.Sublist.append (List.Sublist.refl _) (.cons_cons _ (.cons_cons _ (.cons_cons _ (.cons_cons _ .slnil))))))))), ⟨m + 1, b34, _, _, rfl, (by rw [show cyl (stl ls (M + 1) (M + 1)).c (itr (stl ls (M + 1) (M + 1)).c l0 (M + 1)) (m + 1) = cyl (stl ls (M + 1) (M + 1)).c (itr (stl ls (M + 1) (M + 1)).c l0 (M + 1)) m ++ [_] from rfl, snoc1]; first | done | rfl), rfl, by omega, (.inl ⟨rfl, rfl⟩)⟩⟩
   ·refine i_nil (r_cond_f rfl (r_exit (then_e (then_e (block_hit (then_n (rS (kM rfl rfl (kG rfl rfl (a_inl rfl rfl bw84_at rfl ?_))))))))))
    unfold bw84
    refine rS (kM rfl rfl (kO rfl (a_len rfl (kO rfl (a_sub rfl rfl (by omega) (kM rfl rfl (kM rfl rfl (i_nil (r_block ?_)))))))))
    refine r_loop (fun j e A => ∃ (i : Nat) (z : Int) (w2 : List Int), e = [(0, .slice (some ⟨b, 0, none⟩) (m + 1) cp), (2, .int .i64 (i : Int)), (3, .int .i64 z)] ∧ A = (.row b 3 op (ints w2) :: (.row b6 93 false (cvs (stl ls (M + 1) (M + 1)).c (M + 1)) :: (.row b5 3 false (ints (xs (stl ls (M + 1) (M + 1)).x (M + 1))) :: (nobj B (nl ls ls.length) O ++ (.row bf2 64 false ([.int .i64 (M : Int), .slice al ls.length cl, .slice (some ⟨bt3, 0, none⟩) ls.length ls.length, .slice (some ⟨bn4, 0, none⟩) (M + 1) (M + 1)]) :: (.row bn4 25 false (nsl B (nl ls ls.length) (M + 1)) :: (.row bt3 3 false (ints (List.replicate ls.length 0)) :: (.row b1 24 false ([.int .i64 (M : Int), .slice al ls.length cl]) :: [])))))))) ∧ j = m + 1 - i ∧ i ≤ m + 1 ∧ z = (m : Int) - (i : Int) ∧ Rv (cyl (stl ls (M + 1) (M + 1)).c (itr (stl ls (M + 1) (M + 1)).c l0 (M + 1)) m) w2 m i) 200 0 281474976710656 ?_ (j := _) (env2 := _) (A2 := _) ?_ ?_ ?_ ?_ ⟨0, ((m + 1 : Nat) : Int) - 1, cyl (stl ls (M + 1) (M + 1)).c (itr (stl ls (M + 1) (M + 1)).c l0 (M + 1)) m, rfl, rfl, rfl, Nat.zero_le _, (by omega), (.zero cyl_len)⟩
    rotate_left
    ·omega
    ·omega
    ·exact (lc 0 rfl (lc 2 rfl (lc 3 rfl Less.nil)))
    ·exact (.cons_cons _ (.cons_cons _ (.cons_cons _ (List.Sublist.append (List.Sublist.refl _) (.cons_cons _ (.cons_cons _ (.cons_cons _ (.cons_cons _ .slnil))))))))
    rintro n hn j _ _ ⟨i, z, w2, rfl, rfl, rfl, hi, hz, hrv⟩
    have hw2 := hrv.1
    refine rQ (rS (kM rfl rfl (kM rfl rfl (kO rfl (a_lss rfl rfl (fun h35 => ?_) (fun h35 => ?_))))))
    ·refine i_nil (r_cond_t rfl (r_skip (then_n (rQ (r_block (rI (kM rfl rfl (kM rfl rfl (kM rfl rfl (kM rfl rfl (kM rfl rfl (kM rfl rfl (kO rfl (a_ia (j := (m - i)) rfl rfl (by omega) (by omega) (kO rfl (a_ldI rfl .here (by first | omega | (simp; done) | (simp; omega)) (kM rfl rfl (kM rfl rfl (kO rfl (a_ia (j := i) rfl rfl (by omega) (by omega) (kO rfl (a_ldI rfl .here (by first | omega | (simp; done) | (simp; omega)) (kO rfl (a_ia (j := i) rfl rfl (by omega) (by omega) (kZ rfl (a_stI rfl rfl .here (by first | omega | (simp; done) | (simp [wlen]; omega) | (simp; omega)) (kO rfl (a_ia (j := (m - i)) rfl rfl (by omega) (by omega) (kZ rfl (a_stI rfl rfl .here (by first | omega | (simp; done) | (simp [wlen]; omega) | (simp; omega)) (i_nil ?_)))))))))))))))))))))))))))))))
     refine block_n (then_n (rI (kM rfl rfl (kO rfl (a_add rfl rfl (by omega) (kM rfl rfl (kO rfl (a_sub rfl rfl (by omega) (kM rfl rfl (kM rfl rfl (i_nil (then_n ?_))))))))))))
     exact ⟨rfl, _, _, _, (show m + 1 - (i + 1) < m + 1 - i by omega), (lc 0 rfl (lc 2 rfl (lc 3 rfl Less.nil))), (.cons_cons _ (.cons_cons _ (.cons_cons _ (List.Sublist.append (List.Sublist.refl _) (.cons_cons _ (.cons_cons _ (.cons_cons _ (.cons_cons _ .slnil)))))))), ⟨i + 1, z - 1, _, rfl, rfl, rfl, by omega, (by omega), (hrv.step (by omega))⟩⟩
    ·refine i_nil (r_cond_f rfl (r_exit (then_e (then_e (block_hit (endD0n .nil (i_nil (rS (kM rfl rfl (kM rfl rfl (i_nil (r_ret (endD1 rfl .nil (kM rfl rfl (kM rfl rfl (i_nil (r_ret (endD2 rfl rfl .nil (kM rfl rfl (kO rfl (a_ext rfl rfl (kO rfl (a_ext rfl rfl (kM rfl rfl (kM rfl rfl ?_)))))))))))))))))))))))))
     refine i_nil (rS (kM rfl rfl (kO rfl (a_len rfl (kO rfl (a_eql rfl rfl (fun h36 => ?_) (fun h36 => ?_)))))))
     ·refine kM rfl rfl (i_nil (r_ret ?_))
      first
       | (exfalso; omega)
       | exact end1 rfl (.inl ⟨⟨r, by omega, by assumption⟩, rfl, rfl⟩)
     ·refine kM rfl rfl (i_nil (r_ret ?_))
      first
       | (exact end1 rfl (.inr ⟨hne2, by rw [decide_eq_false (by omega)], rfl⟩))
       | (exact end1 rfl (.inr ⟨hne2, rfl, rfl⟩))

end
end Ev
end Go.Proofs.YtcpebhdbpkhhiaaGreat
