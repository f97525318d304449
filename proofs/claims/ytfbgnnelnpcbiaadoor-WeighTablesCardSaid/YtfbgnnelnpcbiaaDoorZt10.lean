import Derived.Test.YtfbgnnelnpcbiaaDoorZt09
import Derived.Test.YtfbgnnelnpcbiaaDoorZt08
import Derived.Test.YtfbgnnelnpcbiaaDoorZt06
import Derived.IntWalk
set_option linter.unusedVariables false
set_option linter.unusedSimpArgs false
namespace Go.Proofs.YtfbgnnelnpcbiaaDoor
open Go.RowKit

theorem rise_pos {xs : List Int} (hp : Pos xs) : rise 9 100000 xs = true := by
  refine rise_of (by have := hp.lo; omega) (by have := hp.hi; omega) ?_ ?_
  · rw [List.all_eq_true]
    intro x hx
    obtain ⟨i, hi, rfl⟩ := List.mem_iff_getElem.1 hx
    have := hp.bd i hi
    rw [at_get hi] at this
    exact inB_t this
  · unfold incTo
    rw [List.all_eq_true]
    intro i hi
    have := hp.up i (by have := List.mem_range.1 hi; omega)
    simpa [at_] using this
theorem pl_pos {xs : List Int} (hp : Pos xs) : pl xs = 0 := by unfold pl; rw [if_pos (rise_pos hp)]
theorem wtsE_pos {xs : List Int} (hp : Pos xs) : wtsE xs = wts xs := by unfold wtsE; rw [if_pos (rise_pos hp)]
theorem grsE_pos {xs : List Int} (hp : Pos xs) : grsE xs = grs xs := by unfold grsE; rw [if_pos (rise_pos hp)]

theorem Stp.pos {M : Int} {xs : List Int} (h : Stp M xs) (h2 : 2 ≤ xs.length) (h9 : xs.length ≤ 9) (hM : 0 ≤ M) (hM2 : M ≤ 9000) : Pos xs :=
  ⟨h2, h9, fun i hi => by
    have := h.bd i hi
    have h3 : M * (i : Int) ≤ M * 8 := Int.mul_le_mul_of_nonneg_left (by omega) hM
    omega, fun i hi => by have := h.gap i hi; omega⟩

theorem Blk.below {w w' : World} {g : Nat} {t : TypeId} {cs : Array Value} (h : Blk w g t cs) (hb : Below w.heap.size w w') : Blk w' g t cs := (hb.block g h.lt).trans h

/-- A sharper bound: with intervals of at most M. -/
theorem wts_48 {M : Int} {xs : List Int} (hp : Pos xs) (hM : 0 ≤ M) (hg : ∀ i, i + 1 < xs.length → 1 ≤ at_ xs (i + 1) - at_ xs i ∧ at_ xs (i + 1) - at_ xs i ≤ M) : Lim (1152 * M) (wts xs) := by
  have hl := (cons_bd hp).1
  have hq : ∀ q ∈ cons xs, -(48 * M) ≤ q.2 ∧ q.2 ≤ 48 * M := by
    intro q hq
    obtain ⟨g, hgm, h⟩ := List.mem_flatMap.1 hq
    obtain ⟨_, h1, h2, h3⟩ := grF_bd xs xs.length 0 g hgm
    exact con_48 (i := g.1) (m := g.2) (by omega) h3 hM hg q h
  have := foldW_lim (48 * M) (by omega) (cons xs) 0 (List.replicate xs.length 0) (lim_zero _) hq
  intro i
  have h1 := this i
  have h2 : 48 * M * ((cons xs).length : Int) ≤ 48 * M * 24 := Int.mul_le_mul_of_nonneg_left (by omega) (by omega)
  have e : 48 * M * 24 = 1152 * M := by omega
  unfold wts; omega

/-- A tail, or a beginning, or a part of positions. -/
theorem Pos.take {xs : List Int} (hp : Pos xs) {m : Nat} (h1 : 2 ≤ m) (h2 : m ≤ xs.length) : Pos (xs.take m) := by
  have hl : (xs.take m).length = m := by rw [List.length_take]; omega
  refine ⟨by omega, by have := hp.hi; omega, fun i hi => ?_, fun i hi => ?_⟩
  · rw [at_take _ _ _ (by omega)]; exact hp.bd i (by omega)
  · rw [at_take _ _ _ (by omega), at_take _ _ _ (by omega)]; exact hp.up i (by omega)
theorem Pos.drop {xs : List Int} (hp : Pos xs) {a : Nat} (h : a + 2 ≤ xs.length) : Pos (xs.drop a) := by
  have hl : (xs.drop a).length = xs.length - a := List.length_drop
  refine ⟨by omega, by have := hp.hi; omega, fun i hi => ?_, fun i hi => ?_⟩
  · rw [at_drop]; exact hp.bd _ (by omega)
  · rw [at_drop, at_drop]; exact hp.up (a + i) (by omega)

/-- A part of a slice is a slice that reads as a part. -/
theorem IsLB.part {B : Nat} {w : World} {b off n cap : Nat} {xs : List Int} (h : IsLB B w (.slice (some ⟨b, off, none⟩) n cap) xs) {i m c : Nat} (hi : i + m ≤ xs.length) (hm : 0 < m) (hc : m ≤ c) (hc2 : c ≤ maxLen) :
    IsLB B w (.slice (some ⟨b, off + i, none⟩) m c) ((xs.drop i).take m) := by
  obtain ⟨a', cap', hv, h1, h2, h3, h4⟩ := h
  cases hv
  have hl : ((xs.drop i).take m).length = m := by rw [List.length_take, List.length_drop]; omega
  obtain ⟨b', off', e, hb, hcell⟩ := h4 (by intro h; subst h; simp at hi; omega)
  cases e
  refine ⟨_, c, by rw [hl], by omega, hc2, fun x hx => h3 x (List.mem_of_mem_drop (List.mem_of_mem_take hx)), fun _ => ⟨b, off + i, rfl, hb, fun j hj => ?_⟩⟩
  rw [hl] at hj
  rw [Nat.add_assoc, hcell (i + j) (by omega), List.getElem?_take_of_lt hj, List.getElem?_drop]
end Go.Proofs.YtfbgnnelnpcbiaaDoor

namespace Go.Proofs.YtfbgnnelnpcbiaaDoor
open Go.RowKit

theorem Stp.move {M d : Int} {xs : List Int} (h : Stp M xs) (h2 : 2 ≤ xs.length) (h9 : xs.length ≤ 9) (hM : 0 ≤ M) (hM2 : M ≤ 1200) (hd : 0 ≤ d) (hd2 : d ≤ 50000) : Pos (xs.map (· + d)) := by
  have p := h.pos h2 h9 hM (by omega)
  refine ⟨by simp; omega, by simp; omega, fun i hi => ?_, fun i hi => ?_⟩
  · simp only [List.length_map] at hi
    rw [at_map _ _ _ hi]
    have := h.bd i hi
    have h3 : M * (i : Int) ≤ M * 8 := Int.mul_le_mul_of_nonneg_left (by omega) hM
    omega
  · simp only [List.length_map] at hi
    rw [at_map _ _ _ hi, at_map _ _ _ (by omega)]
    have := p.up i hi; omega

theorem Stp.grow {M m : Int} {xs : List Int} (h : Stp M xs) (h2 : 2 ≤ xs.length) (h9 : xs.length ≤ 9) (hM : 0 ≤ M) (hM2 : M ≤ 1200) (hm : 1 ≤ m) (hm2 : m ≤ 9) : Pos (xs.map (· * m)) := by
  have p := h.pos h2 h9 hM (by omega)
  refine ⟨by simp; omega, by simp; omega, fun i hi => ?_, fun i hi => ?_⟩
  · simp only [List.length_map] at hi
    rw [at_map _ _ _ hi]
    have := h.bd i hi
    have h3 : M * (i : Int) ≤ M * 8 := Int.mul_le_mul_of_nonneg_left (by omega) hM
    have h4 : at_ xs i * m ≤ at_ xs i * 9 := Int.mul_le_mul_of_nonneg_left hm2 (by omega)
    have h5 : 0 ≤ at_ xs i * m := Int.mul_nonneg (by omega) (by omega)
    omega
  · simp only [List.length_map] at hi
    rw [at_map _ _ _ hi, at_map _ _ _ (by omega)]
    exact Int.mul_lt_mul_of_pos_right (p.up i hi) (by omega)

theorem take_map_snoc (f : Int → Int) (xs : List Int) (k : Nat) (h : k < xs.length) : (xs.take k).map f ++ [f (at_ xs k)] = (xs.take (k + 1)).map f := by
  rw [List.take_succ_eq_append_getElem h, at_get h, List.map_append]; rfl

theorem pos_FB {xs : List Int} (hp : Pos xs) : ∀ x ∈ xs, FB x := by
  intro x hx
  obtain ⟨i, hi, rfl⟩ := List.mem_iff_getElem.1 hx
  have := hp.bd i hi
  rw [at_get hi] at this
  exact ⟨by omega, by omega⟩

/-- Weights of valid positions. -/
theorem Weights_pos (a : Option Addr) (n cap : Nat) (xs : List Int) (w : World) (h : IsL w (.slice a n cap) xs) (hp : Pos xs) :
    Calls Tryd.prog 33 #[.slice a n cap] w fun e w' => ∃ a' c', e = .returned (.tuple #[.slice a' xs.length c', .int .i64 0]) ∧ IsL w' (.slice a' xs.length c') (wts xs) ∧ Fresh w.heap.size (.slice a' xs.length c') ∧ Below w.heap.size w w' := by
  refine (Weights_w a n cap xs w h).mono ?_
  rintro e w' ⟨v, he, hv, hf, hb⟩
  rw [wtsE_pos hp] at hv
  rw [pl_pos hp] at he
  obtain ⟨a', c', rfl, _⟩ := id hv
  rw [wts_len] at he hv hf
  exact ⟨a', c', he, hv, hf, hb⟩

end Go.Proofs.YtfbgnnelnpcbiaaDoor

namespace Go.Proofs.YtfbgnnelnpcbiaaDoor
open Go.RowKit


theorem infoSl : (Tryd.prog.info? 22).map (fun i => (i.zero, i.size, i.bytes)) = some (some (.slice none 0 0), 1, 24) := by kernel_rfl

/-- v is a slice of the call's own, in blocks from B on, whose elements are the slices vs. -/
def OwnS (B : Nat) (w : World) (v : Value) (vs : List Value) : Prop := w.ownsRow B 22 1 v vs.length vs

theorem pushS_w {ops : Array Oper} {rest : List Oper} {o : Oper} {a : Act} {Q : Exit → Act → World → Prop} (hgd : o.guard = none) (s x : Operand)
    (ho : o.op = .call { callee := .builtin .append, args := #[s, x], argTypes := #[23, 23] })
    (B : Nat) (W : World) (v : Value) (vs : List Value) (y : Value) (hown : OwnS B W v vs) (h1 : y.oneCell' = true) (hs : a.eval s = v) (hx : a.eval x = .slice (some ⟨W.heap.size, 0, none⟩) 1 1) (hl : vs.length ≤ 1000000) (hB : B ≤ W.heap.size)
    (h : ∀ v' w', OwnS B w' v' (vs ++ [y]) → (W.alloc (.cells #[y] 22)).grownBy w' v.ownBlock → (v'.ownBlock = v.ownBlock ∨ v'.ownBlock = some (W.heap.size + 1)) → wpList Tryd.prog ops Q rest (a.put o.dst v') w') :
    wpList Tryd.prog ops Q (o :: rest) a (W.alloc (.cells #[y] 22)) := by
  obtain ⟨i0, hi, hz0, hz1, hz2⟩ := info_parts infoSl
  refine wpList_append_own_at _ hgd s x 23 ho B 22 i0 _ 1 24 Tryd.underlying23 hi hz0 hz1 hz2 rfl (by decide) v vs.length vs hs (World.ownsRow.alloc hown _) ⟨W.heap.size, 0, none⟩ 1 1 [y] hx rfl (cell_one_new _ _ _) (by simpa using h1) (by simp only [maxLen]; omega) (by omega) (by simp; omega) ?_
  intro v' w' h1 h2 h3 h4
  refine h v' w' ?_ h2 (by simpa using h4)
  unfold OwnS
  simpa using h1

/-- What a table has drawn up. -/
def TableOf (w w' : World) (e : Ending) : Prop :=
  ∃ a1 c1 a2 c2 a3 c3 vs S T H, e = .returned (.agg #[.slice a1 S.length c1, .slice a2 T.length c2, .slice a3 S.length c3]) ∧ IsL w' (.slice a1 S.length c1) S ∧ IsL w' (.slice a2 T.length c2) T ∧ IsRB w'.heap.size w' (.slice a3 S.length c3) vs H ∧
    Stp 9000 S ∧ 2 ≤ S.length ∧ S.length ≤ 9 ∧ Stp 1800 T ∧ 2 ≤ T.length ∧ T.length ≤ 7 ∧ H.length = S.length ∧ (∀ r ∈ H, r.length = T.length ∧ ∀ x ∈ r, 0 ≤ x ∧ x ≤ 20000) ∧ Below w.heap.size w w'

theorem below_gb {B : Nat} {w w' : World} (hb : Below w.heap.size w w') : w.grownBy w' none := ⟨hb.os, hb.tape, hb.output, hb.size, fun k hk _ => hb.block k hk⟩
theorem set_gb (w : World) (p : Addr) (u : Value) : w.grownBy (w.setCell p u) (some p.block) := ⟨rfl, rfl, rfl, by simp [World.setCell], fun k _ hk => Below.heap_setCell _ _ _ _ (fun e => hk (by rw [e]))⟩
theorem OwnS.gb {B : Nat} {w w' : World} {v : Value} {vs : List Value} {row : Option Nat} (h : OwnS B w v vs) (hg : w.grownBy w' row) (hne : ∀ k, v.ownBlock = some k → some k ≠ row) : OwnS B w' v vs := by
  refine World.ownsRow.kept h hg ?_
  cases e : v.ownBlock with
  | none => exact .inl rfl
  | some k => exact .inr (hne k e)
theorem IsLB.gb {B : Nat} {w w' : World} {v : Value} {xs : List Int} {row : Option Nat} (h : IsLB B w v xs) (hB : B ≤ w.heap.size) (hne : ∀ k, v.ownBlock = some k → some k ≠ row) (hg : w.grownBy w' row) : IsLB B w' v xs := by
  obtain ⟨a, cap, hv, h1, h2, h3, h4⟩ := h
  refine ⟨a, cap, hv, h1, h2, h3, fun he => ?_⟩
  obtain ⟨b, off, ha, hlt, hc⟩ := h4 he
  refine ⟨b, off, ha, hlt, fun i hi => ?_⟩
  rw [World.cell?_of_block (hg.block b (by omega) (hne b (by rw [hv, ha]; rfl)))]
  exact hc i hi
theorem IsLB.ownLt {B : Nat} {w : World} {v : Value} {xs : List Int} (h : IsLB B w v xs) (hne : xs ≠ []) : ∀ k, v.ownBlock = some k → k < B := by
  obtain ⟨a, cap, hv, h1, h2, h3, h4⟩ := h
  obtain ⟨b, off, ha, hlt, _⟩ := h4 hne
  intro k hk
  rw [hv, ha] at hk
  cases hk; exact hlt

end Go.Proofs.YtfbgnnelnpcbiaaDoor

namespace Go.Proofs.YtfbgnnelnpcbiaaDoor
open Go.RowKit Go.Shelf

/-- What the reference's Grid returns. -/
def GridOf (w w' : World) (S W : List Int) (e : Ending) : Prop :=
  ∃ v vs, e = .returned (.tuple #[v, .int .i64 (planE S W)]) ∧ IsRB w'.heap.size w' v vs (if planB S W = true then gridL S W else []) ∧ Below w.heap.size w w'

theorem plan_pos {S W : List Int} (h : planB S W = true) : Pos S ∧ Pos W ∧ ∀ i, i < W.length → at_ W i ≤ 15000 := by
  unfold planB at h
  simp only [Bool.and_eq_true, decide_eq_true_eq] at h
  obtain ⟨⟨⟨h1, h2⟩, h3⟩, h4⟩ := h
  refine ⟨Pos.of h1, Pos.of h2, fun i hi => ?_⟩
  rw [List.all_eq_true] at h4
  have := h4 _ (List.getElem_mem hi)
  rw [at_get hi]; simp only [inB, decide_eq_true_eq] at this; omega

theorem grid_at {S W : List Int} {i k : Nat} (hi : i < (wts S).length) (hk : k < (wts W).length) : at_ (rowAt (gridL S W) i) k = at_ (wts S) i * at_ (wts W) k := by
  unfold rowAt gridL
  rw [List.getElem?_map, List.getElem?_eq_getElem hi]
  simp only [Option.map_some, Option.getD_some]
  rw [at_get hi]
  unfold at_
  rw [List.getElem?_map, List.getElem?_eq_getElem hk]
  rfl

theorem take_snoc (xs : List Int) (k : Nat) (h : k < xs.length) : xs.take k ++ [at_ xs k] = xs.take (k + 1) := by
  rw [List.take_succ_eq_append_getElem h, at_get h]

set_option maxRecDepth 100000 in
set_option maxHeartbeats 8000000 in
theorem rGrid_w (a1 a2 : Option Addr) (n1 n2 c1 c2 : Nat) (S W : List Int) (w : World) (i1 : IsL w (.slice a1 n1 c1) S) (i2 : IsL w (.slice a2 n2 c2) W) :
    Calls Tryd.prog 5 #[.slice a1 n1 c1, .slice a2 n2 c2] w fun e w' => GridOf w w' S W e := by
  have hpl := isTable_w a1 a2 n1 n2 c1 c2 S W w i1 i2
  cases hp : planB S W with
  | false =>
    rw [hp] at hpl
    have HPL := hide hpl
    have E : Hid (planE S W = 12) := by show _ = _; unfold planE; rw [hp]; rfl
    have HP := hide hp
    clear hpl hp
    go_enter Tryd.func5, Tryd.ntmps5
    go_wp2_with (go_at_call 18; refine HPL.out.mono ?_; rintro e w' ⟨rfl, k, rfl⟩)
    go_ret2
    refine ⟨.slice none 0 0, [], by rw [E.out]; rfl, ?_, below_drewN (Below.refl _ _) _⟩
    rw [HP.out]
    exact ⟨rfl, fun i hi => by simp at hi, none, 0, rfl, Nat.le_refl _, Nat.zero_le _, fun h => absurd rfl h⟩
  | true =>
    rw [hp] at hpl
    have HPL := hide hpl
    have E : Hid (planE S W = 0) := by show _ = _; unfold planE; rw [hp]; rfl
    obtain ⟨pS, pW, hW⟩ := plan_pos hp
    have HP := hide hp; have HPS := hide pS; have HPW := hide pW; have HWW := hide hW
    have hs9 := pS.hi
    have hw9 := pW.hi
    have hs2 := pS.lo
    have hw2 := pW.lo
    have I1 := hide i1; have I2 := hide i2
    clear hpl hp pS pW hW i1 i2
    go_enter Tryd.func5, Tryd.ntmps5
    go_wp2_with (go_at_call 18; refine HPL.out.mono ?_; rintro e w' ⟨rfl, k, rfl⟩)
    refine (rweights_w a1 n1 c1 S _ (I1.out.drewN _) HPS.out).mono ?_
    rintro e w1 ⟨v1, rfl, hv1, _, hb1⟩
    have hB1 := back (below_drewN (Below.refl w.heap.size w) k) hb1
    go_wp2_with fail
    refine (rweights_w a2 n2 c2 W _ (I2.out.below hB1) HPW.out).mono ?_
    rintro e w2 ⟨v2, rfl, hv2, _, hb2⟩
    have hB2 := back hB1 hb2
    have hv1' := IsL.below hv1 hb2
    obtain ⟨x1, y1, rfl, _⟩ := id hv1'
    obtain ⟨x2, y2, rfl, _⟩ := id hv2
    rw [wts_len] at hv1' hv2 ⊢
    rw [wts_len]
    have HV1 := hide hv1'; have HV2 := hide hv2; have HB2 := hide hB2
    clear hv1 hv1' hv2 hb1 hb2 hB1 hB2
    go_wp2_with fail
    obtain ⟨b1, o1, rfl, q1⟩ : ∃ b1 o1, x1 = some ⟨b1, o1, none⟩ ∧ ∀ V, Below w2.heap.size w2 V → ∀ i, i < S.length → V.cell? ⟨b1, o1 + i, none⟩ = some (.int .i64 (at_ (wts S) i)) := by
      obtain ⟨_, _, hv, _, _, _, h4⟩ := HV1.out
      obtain ⟨rfl, _, _⟩ := Value.slice.inj hv
      obtain ⟨b, o, e, _, _⟩ := h4 (by intro h; have := wts_len S; rw [h] at this; simp at this; omega)
      subst e
      exact ⟨b, o, rfl, fun V hb i hi => rowL_at (IsL.below HV1.out hb) (by rw [wts_len]; exact hi)⟩
    obtain ⟨b2, o2, rfl, q2⟩ : ∃ b2 o2, x2 = some ⟨b2, o2, none⟩ ∧ ∀ V, Below w2.heap.size w2 V → ∀ i, i < W.length → V.cell? ⟨b2, o2 + i, none⟩ = some (.int .i64 (at_ (wts W) i)) := by
      obtain ⟨_, _, hv, _, _, _, h4⟩ := HV2.out
      obtain ⟨rfl, _, _⟩ := Value.slice.inj hv
      obtain ⟨b, o, e, _, _⟩ := h4 (by intro h; have := wts_len W; rw [h] at this; simp at this; omega)
      subst e
      exact ⟨b, o, rfl, fun V hb i hi => rowL_at (IsL.below HV2.out hb) (by rw [wts_len]; exact hi)⟩
    have HQ1 := hide q1; have HQ2 := hide q2
    clear q1 q2 HV1 HV2 HPL I1 I2
    go_loopw [8, 9, 10, 11] (fun o i _ _ wr => ∃ (k : Nat) (ov : Value) (vs : List Value), ov = o ∧ i = .int .i64 k ∧ k ≤ S.length ∧ Hid (OwnS w2.heap.size wr ov vs) ∧ Hid (vs.length = k) ∧ Hid (∀ j, j < k → IsLB wr.heap.size wr (vs[j]?.getD undef) (rowAt (gridL S W) j) ∧ Apart (vs[j]?.getD undef) ov ∧ (vs[j]?.getD undef).oneCell' = true)
      ∧ Hid (Below w2.heap.size w2 wr)) (fun _ i _ _ _ => S.length - (intOf i).toNat)
    case atStart => exact ⟨0, _, [], rfl, rfl, Nat.zero_le _, hide (World.ownsRow_nil _ _ _ _), hide rfl, hide (by intro j hj; omega), hide (Below.refl _ _)⟩
    case round =>
      obtain ⟨k, ov, vs, rfl, rfl, hk, hown, hvl, hrows, hbel⟩ := hrel
      obtain ⟨wo, rfl⟩ : ∃ wo : World, wo = wr := ⟨_, rfl⟩
      have hso := hbel.out.size
      by_cases hlt : k < S.length
      · have hl3 : (k : Int) < S.length := by omega
        have hrl0 : (rowAt (gridL S W) k).length = W.length := gridL_row k hlt
        have HRL0 := hide hrl0
        clear hrl0
        go_wp2_with fail
        go_loopw [10, 11] (fun r j wr => ∃ (q : Nat) (rv : Value), rv = r ∧ j = .int .i64 q ∧ q ≤ W.length ∧ Hid (Own wo.heap.size wr rv ((rowAt (gridL S W) k).take q)) ∧ Hid (Below wo.heap.size wo wr)) (fun _ j _ => W.length - (intOf j).toNat)
        case atStart => exact ⟨0, _, rfl, rfl, Nat.zero_le _, hide (by simpa using Own.nil _ _), hide (Below.refl _ _)⟩
        case round =>
          obtain ⟨q, rv, rfl, rfl, hq, hrow, hbi⟩ := hrel
          have hsi := hbi.out.size
          by_cases hql : q < W.length
          · have hl4 : (q : Int) < W.length := by omega
            have hb2 := hbel.out.trans (hbi.out.mono hso)
            have cA := HQ1.out wr hb2 k hlt
            have cB := HQ2.out wr hb2 q hql
            have hga := grid_at (S := S) (W := W) (i := k) (k := q) (by rw [wts_len]; exact hlt) (by rw [wts_len]; exact hql)
            have hlm := grid_lim HPS.out HPW.out HWW.out k q
            have hsn := take_snoc (rowAt (gridL S W) k) q (by rw [HRL0.out]; exact hql)
            rw [hga] at hlm hsn
            obtain ⟨x, hx⟩ : ∃ x, at_ (wts S) k = x := ⟨_, rfl⟩
            obtain ⟨y, hy⟩ : ∃ y, at_ (wts W) q = y := ⟨_, rfl⟩
            rw [hx, hy] at hlm hsn
            rw [hx] at cA
            rw [hy] at cB
            obtain ⟨p, hp⟩ : ∃ p, x * y = p := ⟨_, rfl⟩
            rw [hp] at hlm hsn
            have hwp : IntKind.i64.wrap p = p := IntWalk.i64_in _ (by omega)
            have HSN := hide hsn
            have kp : ∀ V : World, Below wr.heap.size wr V → V.cell? ⟨b1, o1 + k, none⟩ = some (.int .i64 x) ∧ V.cell? ⟨b2, o2 + q, none⟩ = some (.int .i64 y) ∧ Below wo.heap.size wo V := by
              intro V hb
              have h2 := hb2.trans (hb.mono (Nat.le_trans hso hsi))
              refine ⟨?_, ?_, hbi.out.trans (hb.mono hsi)⟩
              · rw [← hx]; exact HQ1.out V h2 k hlt
              · rw [← hy]; exact HQ2.out V h2 q hql
            have kq : ∀ V : World, Below wo.heap.size wo V → V.cell? ⟨b1, o1 + k, none⟩ = some (.int .i64 x) ∧ V.cell? ⟨b2, o2 + q, none⟩ = some (.int .i64 y) ∧ Below wo.heap.size wo V := by
              intro V hb
              have h2 := hbel.out.trans (hb.mono hso)
              refine ⟨?_, ?_, hb⟩
              · rw [← hx]; exact HQ1.out V h2 k hlt
              · rw [← hy]; exact HQ2.out V h2 q hql
            have KQ := hide kq
            have hlen : ((rowAt (gridL S W) k).take q).length ≤ 1000000 := by rw [List.length_take]; omega
            have hlq : ((rowAt (gridL S W) k).take q).length = q := by rw [List.length_take, HRL0.out]; omega
            have HLE := hide hlen; have HLQ := hide hlq
            clear kp kq hga hlm hsn hx hy hlen hlq hb2
            go_wp2_with fail
            go_region_held3 (fun V => V.cell? ⟨b1, o1 + k, none⟩ = some (.int .i64 x) ∧ V.cell? ⟨b2, o2 + q, none⟩ = some (.int .i64 y) ∧ Below wo.heap.size wo V) (first | assumption | (refine KQ.out _ ?_; first | exact hS5.out | exact below_drewN hbi.out 1 | exact (hbi.out.alloc hsi _).drew | exact hbi.out))
              (first
                | (refine step_push1 (o := ⟨some 43, _, _, _, _, _⟩) (by rfl) (.tmp 32) (.tmp 42) (by rfl) wo.heap.size rv _ p wr.heap.size 1 (Own.drew_alloc hrow.out _) (by rfl) (by rfl) (one_drew _ _) HLE.out (by simp; omega) ?_; intro g3 gc3 w5 ho3 hgr3 hbk3; have hS5 := hide (((hbi.out.alloc hsi _).drew).grown hgr3 (by simp; omega) (fun k hk => (hrow.out.lt k hk).1))))
            have hS6 := hide (show Below wo.heap.size wo w5 from hS5.out)
            rw [HSN.out, HLQ.out] at ho3
            have HO3 := hide ho3
            clear ho3 hgr3 hbk3
            go_wp2_with fail
            go_roundw
            case rel => exact ⟨q + 1, _, rfl, by go_num, by omega, (by have h := HO3.out; rw [show min q (rowAt (gridL S W) k).length = q by rw [HRL0.out]; omega]; exact h), hS6⟩
            case measure => simp [intOf]; omega
          · have hl4 : ¬ ((q : Int) < W.length) := by omega
            obtain rfl : q = W.length := by omega
            have hrw := hrow.out
            rw [List.take_of_length_le (by rw [HRL0.out]; exact Nat.le_refl _)] at hrw
            have hrl : IsL wr rv (rowAt (gridL S W) k) := hrw.isL (lim_FB (grid_lim HPS.out HPW.out HWW.out k) (by omega))
            obtain ⟨rg, rc, rfl, hrg1, hrg2, _⟩ := hrw.form HRL0.out (by omega)
            have hvlt : ∀ j, ov.ownBlock = some j → w2.heap.size ≤ j ∧ j < wo.heap.size := World.ownsRow.lt hown.out
            have hor : OwnS w2.heap.size wr ov vs := hown.out.gb (below_gb (B := 0) hbi.out) (by intro j _; simp)
            have hlen : vs.length ≤ 1000000 := by rw [hvl.out]; omega
            have hBt : w2.heap.size ≤ wr.heap.size := by omega
            have HRL := hide hrl; have HVLT := hide hvlt; have HOR := hide hor
            clear hrl hvlt hor hrw
            go_wp2_with (at_builtin; refine pushS_w rfl (.tmp 44) (.tmp 46) rfl w2.heap.size wr ov vs (.slice (some ⟨rg, 0, none⟩) W.length rc) HOR.out rfl rfl rfl hlen hBt ?_; intro v' w5 hown5 hg5 hbk5)
            have HO5 := hide hown5; have HG5 := hide hg5; have HBK5 := hide hbk5
            clear hown5 hg5 hbk5
            have hz5 : wr.heap.size + 1 ≤ w5.heap.size := by have := HG5.out.size; simpa using this
            have hkeep : ∀ (u : Value) (ys : List Int), IsLB wr.heap.size wr u ys → Apart u ov → IsLB w5.heap.size w5 u ys := by
              intro u ys h ha
              have h1 : IsLB wr.heap.size (wr.alloc (.cells #[.slice (some ⟨rg, 0, none⟩) W.length rc] 22)) u ys := IsLB.below h ((Below.refl _ _).alloc (Nat.le_refl _) _)
              have h2 := h1.gb (by simp) (fun j hj => by intro e; exact ha j hj e.symm) HG5.out
              exact h2.more (by omega)
            have hnew : ∀ (u : Value), (∀ j, u.ownBlock = some j → j < wr.heap.size) → Apart u ov → Apart u v' := by
              intro u hu ha j h1 h2
              rcases HBK5.out with e | e
              · exact ha j h1 (by rw [← e]; exact h2)
              · rw [e] at h2; cases h2; have := hu _ h1; omega
            have hrowb : ∀ j, (Value.slice (some ⟨rg, 0, none⟩) W.length rc).ownBlock = some j → j = rg := by intro j hj; simp [Value.ownBlock] at hj; exact hj.symm
            have hapr : Apart (.slice (some ⟨rg, 0, none⟩) W.length rc) ov := by
              intro j h1 h2
              have := hrowb j h1; subst this
              have := HVLT.out _ h2; omega
            have hbn : Below w2.heap.size w2 w5 := ((hbel.out.trans (hbi.out.mono hso)).alloc hBt _).grown HG5.out (by simp; omega) (fun j hj => (HVLT.out j hj).1)
            have HKEEP := hide hkeep; have HNEW := hide hnew; have HAPR := hide hapr; have HBN := hide hbn
            clear hkeep hnew hapr hrowb hbn
            go_wp2_with fail
            go_roundw
            case rel =>
              refine ⟨k + 1, v', vs ++ [.slice (some ⟨rg, 0, none⟩) W.length rc], rfl, by go_num, by omega, HO5, hide (by simp [hvl.out]), hide ?_, HBN⟩
              intro j hj
              by_cases hjk : j < k
              · obtain ⟨r1, r3, r4⟩ := hrows.out j hjk
                rw [List.getElem?_append_left (by rw [hvl.out]; exact hjk)]
                refine ⟨HKEEP.out _ _ ((IsLB.below r1 hbi.out).more hsi) r3, HNEW.out _ (fun i hi => ?_) r3, r4⟩
                have hne : rowAt (gridL S W) j ≠ [] := by
                  intro h
                  have := gridL_row (S := S) (W := W) j (by omega)
                  rw [h] at this; simp at this; omega
                have := r1.ownLt hne i hi
                omega
              · obtain rfl : j = k := by omega
                rw [List.getElem?_append_right (by rw [hvl.out]; exact Nat.le_refl _), hvl.out, Nat.sub_self]
                refine ⟨HKEEP.out _ _ HRL.out HAPR.out, HNEW.out _ (fun i hi => ?_) HAPR.out, rfl⟩
                simp [Value.ownBlock] at hi; omega
            case measure => simp [intOf]; omega
      · have hl3 : ¬ ((k : Int) < S.length) := by omega
        obtain rfl : k = S.length := by omega
        have hoF := hown.out
        obtain ⟨vg, vc, rfl, _, _⟩ := World.ownsRow.form hoF (by rw [hvl.out]; omega)
        rw [hvl.out]
        go_wp2_with fail
        go_ret2
        refine ⟨.slice (some ⟨vg, 0, none⟩) S.length vc, vs, by rw [E.out]; rfl, ?_, back HB2.out hbel.out⟩
        rw [HP.out, if_pos rfl]
        refine ⟨by rw [hvl.out, gridL_len], fun i hi => (hrows.out i (by rw [gridL_len] at hi; exact hi)).1, some ⟨vg, 0, none⟩, vc, by rw [gridL_len], ?_, ?_, fun _ => ⟨vg, 0, rfl, ?_, fun i hi => ?_⟩⟩
        · rcases hoF.2 with ⟨e, _⟩ | ⟨g', cap', cur, e, _, _, h1, h2, _⟩
          · simp at e
          · obtain ⟨_, _, rfl⟩ := Value.slice.inj e
            rw [gridL_len, ← hvl.out]; exact h1
        · rcases hoF.2 with ⟨e, _⟩ | ⟨g', cap', cur, e, _, _, h1, h2, _⟩
          · simp at e
          · obtain ⟨_, _, rfl⟩ := Value.slice.inj e
            exact h2
        · exact (World.ownsRow.lt hoF vg rfl).2
        · rw [gridL_len] at hi
          rw [Nat.zero_add]
          have := World.ownsRow.cellAt hoF i (by rw [hvl.out]; omega)
          rw [this, List.getElem?_eq_getElem (by rw [hvl.out]; exact hi)]; rfl
end Go.Proofs.YtfbgnnelnpcbiaaDoor

namespace Go.Proofs.YtfbgnnelnpcbiaaDoor
open Go.RowKit Go.Shelf

set_option maxRecDepth 100000 in
set_option maxHeartbeats 2000000 in
theorem Grid_w (a1 a2 : Option Addr) (n1 n2 c1 c2 : Nat) (S W : List Int) (w : World) (i1 : IsL w (.slice a1 n1 c1) S) (i2 : IsL w (.slice a2 n2 c2) W) :
    Calls Tryd.prog 4 #[.slice a1 n1 c1, .slice a2 n2 c2] w fun e w' => GridOf w w' S W e := by
  have hpl := plan_w a1 a2 n1 n2 c1 c2 S W w i1 i2
  cases hp : planB S W with
  | false =>
    have e1 : planE S W = 12 := by unfold planE; rw [hp]; rfl
    rw [e1] at hpl
    have HPL := hide hpl; have E := hide e1; have HP := hide hp
    clear hpl hp e1
    go_enter Tryd.func4, Tryd.ntmps4
    go_wp2_with (go_at_call 16; refine HPL.out.mono ?_; rintro e w' ⟨rfl, k, rfl⟩)
    go_ret2
    refine ⟨.slice none 0 0, [], by rw [E.out]; rfl, ?_, below_drewN (Below.refl _ _) _⟩
    rw [HP.out]
    exact ⟨rfl, fun i hi => by simp at hi, none, 0, rfl, Nat.le_refl _, Nat.zero_le _, fun h => absurd rfl h⟩
  | true =>
    have e1 : planE S W = 0 := by unfold planE; rw [hp]; rfl
    rw [e1] at hpl
    obtain ⟨pS, pW, _⟩ := plan_pos hp
    have G := fun k : Nat => gridOf_w a1 a2 n1 n2 c1 c2 S W (w.drewN k) (i1.drewN k) (i2.drewN k) pS pW
    have HPL := hide hpl; have E := hide e1; have HP := hide hp; have HG := hide G
    clear hpl hp e1 G i1 i2 pS pW
    go_enter Tryd.func4, Tryd.ntmps4
    go_wp2_with (first | (go_at_call 16; refine HPL.out.mono ?_; rintro e w' ⟨rfl, k, rfl⟩) | (go_at_call 17; refine (HG.out _).mono ?_; rintro e w1 ⟨v, rfl, ⟨vs, hv, _, _⟩, hb⟩; obtain ⟨_, _, a, c, rfl, _⟩ := id hv))
    go_ret2
    refine ⟨.slice a (gridL S W).length c, vs, by rw [E.out]; rfl, ?_, back (below_drewN (Below.refl _ _) _) hb⟩
    rw [HP.out]
    exact hv
end Go.Proofs.YtfbgnnelnpcbiaaDoor

namespace Go.Proofs.YtfbgnnelnpcbiaaDoor
open Go.RowKit Go.Shelf

theorem tab_plan {S W : List Int} {H : List (List Int)} (h : tabE S W H = 0) : planB S W = true := by
  unfold tabE at h
  split at h
  · rename_i h'
    unfold tabB at h'
    simp only [Bool.and_eq_true] at h'
    exact h'.1.1
  · simp at h

theorem range_snoc (f : Nat → Int) (k : Nat) : (List.range (k + 1)).foldl (addF f) 0 = (List.range k).foldl (addF f) 0 + f k := by
  rw [List.range_succ, addF_snoc]

set_option maxRecDepth 100000 in
set_option maxHeartbeats 8000000 in
theorem rVolume_w (a1 a2 a3 : Option Addr) (n1 n2 n3 c1 c2 c3 : Nat) (vs : List Value) (S W : List Int) (H : List (List Int)) (w : World) (i1 : IsL w (.slice a1 n1 c1) S) (i2 : IsL w (.slice a2 n2 c2) W) (i3 : IsRB w.heap.size w (.slice a3 n3 c3) vs H) :
    Calls Tryd.prog 7 #[.agg #[.slice a1 n1 c1, .slice a2 n2 c2, .slice a3 n3 c3]] w fun e w' => e = .returned (.tuple #[.int .i64 (volE S W H), .int .i64 (tabE S W H)]) ∧ Below w.heap.size w w' := by
  have hb0 : ∀ o : Obj, Below w.heap.size w (w.alloc o) := fun o => (Below.refl _ _).alloc (Nat.le_refl _) _
  have hct := fun o => rCheckTable_w _ _ _ vs S W H (w.alloc o) (i1.below (hb0 o)) (i2.below (hb0 o)) ((i3.below (hb0 o)).more (by simp))
  have hn1 : n1 = S.length := by obtain ⟨_, _, hv, _⟩ := i1; cases hv; rfl
  have hn2 : n2 = W.length := by obtain ⟨_, _, hv, _⟩ := i2; cases hv; rfl
  have hn3 : n3 = H.length := by obtain ⟨_, _, _, _, hv, _⟩ := i3; cases hv; rfl
  subst hn1; subst hn2; subst hn3
  rcases tabE_or S W H with h | h
  · have e : volE S W H = 2 * sideF (gridL S W) H := by unfold volE; rw [if_pos h]
    have hpl := tab_plan h
    have hpe : planE S W = 0 := by unfold planE; rw [hpl]; rfl
    have hok := tab_ok h
    have hcl := fun i k => cellP_lim h i k
    have hsl := fun k (hk : k ≤ 9) => side_lim h (List.range k) (by rw [List.length_range]; exact hk)
    have hsd : sideF (gridL S W) H = (List.range S.length).foldl (addF (rowSum (gridL S W) H)) 0 := by unfold sideF; rw [gridL_len]
    rw [e, h]
    rw [h] at hct
    have hrl := fun i => rowSum_lim h i
    have HRL := hide hrl
    clear hrl
    have HCT := hide hct; have HOK := hide hok; have HPL := hide hpl; have HPE := hide hpe; have HCL := hide hcl; have HSL := hide hsl; have HSD := hide hsd
    have I1 := hide i1; have I2 := hide i2; have I3 := hide i3
    clear hct hok hpl hpe hcl hsl hsd e h i1 i2 i3 hb0
    go_enter Tryd.func7, Tryd.ntmps7
    go_wp2_with fail
    refine (HCT.out _).mono ?_
    rintro e w1 ⟨rfl, hb1⟩
    have hk1 := (hb1.block w.heap.size (by simp)).trans (Blk.new w 25 #[.slice a1 S.length c1, .slice a2 W.length c2, .slice a3 H.length c3])
    have hB1 : Below w.heap.size w w1 := ((Below.refl _ _).alloc (Nat.le_refl _) _).trans (hb1.mono (by simp))
    have hz1 : w.heap.size < w1.heap.size := by have := hb1.size; simp at this; omega
    have e0 : w1.cell? ⟨w.heap.size, 0, none⟩ = some (.slice a1 S.length c1) := cell_of_row w1 _ 0 _ _ (0, 0) hk1
    have e1 : w1.cell? ⟨w.heap.size, 1, none⟩ = some (.slice a2 W.length c2) := cell_of_row w1 _ 1 _ _ (0, 0) hk1
    have HK1 : Hid (Blk w1 w.heap.size 25 #[.slice a1 S.length c1, .slice a2 W.length c2, .slice a3 H.length c3]) := hk1
    clear hb1 hk1
    go_wp2_with fail
    refine (rGrid_w a1 a2 _ _ c1 c2 S W w1 (I1.out.below hB1) (I2.out.below hB1)).mono ?_
    rintro e w2 ⟨v, vg, rfl, hg, hb2⟩
    rw [HPE.out]
    rw [HPL.out, if_pos rfl] at hg
    have hB2 := back hB1 hb2
    have hk2 : Blk w2 w.heap.size 25 #[.slice a1 S.length c1, .slice a2 W.length c2, .slice a3 H.length c3] := (hb2.block _ hz1).trans HK1.out
    have e2 : w2.cell? ⟨w.heap.size, 2, none⟩ = some (.slice a3 H.length c3) := hk2.cell 2
    obtain ⟨_, hgr, ag, cg, rfl, hlg, hmg, hgc⟩ := hg
    obtain ⟨_, hhr, ah, ch, hvh, hlh, hmh, hhc⟩ := I3.out.below hB2
    obtain ⟨rfl, _, rfl⟩ := Value.slice.inj hvh
    rw [gridL_len] at hgc hgr ⊢
    have s2 := HOK.out.1.lo
    have s9 := HOK.out.1.hi
    have w7 := HOK.out.2.2.1
    have hHS := HOK.out.2.2.2.2.1
    obtain ⟨bg, og, rfl, _, hgc⟩ := hgc (by intro h; have := gridL_len S W; rw [h] at this; simp at this; omega)
    obtain ⟨bh, oh, rfl, _, hhc⟩ := hhc (by intro h; rw [h] at hHS; simp at hHS; omega)
    have HGC := hide hgc; have HHC := hide hhc; have HGR := hide hgr; have HHR := hide hhr
    have HB2 := hide hB2; have HHS := hide hHS
    clear hgc hhc hgr hhr hvh hB1 hB2 hb2 hk2 e0 e1 hz1 HK1 HCT I1 I2 I3
    go_wp2_with fail
    go_loopw [6, 7, 8] (fun s i _ wr => ∃ (k n : Nat) (t : Int), s = .int .i64 t ∧ i = .int .i64 k ∧ k ≤ S.length ∧ Hid (t = 2 * (List.range k).foldl (addF (rowSum (gridL S W) H)) 0) ∧ wr = w2.drewN n) (fun _ i _ _ => S.length - (intOf i).toNat)
    case atStart => exact ⟨0, 0, 0, rfl, rfl, Nat.zero_le _, hide (by simp), rfl⟩
    case round =>
      obtain ⟨k, n, t, rfl, rfl, hk, ht, rfl⟩ := hrel
      by_cases hlt : k < S.length
      · have hl3 : (k : Int) < S.length := by omega
        have g0 := HGC.out k hlt
        have h0 := HHC.out k (by rw [HHS.out]; exact hlt)
        have gr := HGR.out k hlt
        have hr := HHR.out k (by rw [HHS.out]; exact hlt)
        have gl : (rowAt (gridL S W) k).length = W.length := gridL_row k hlt
        have hl : (rowAt H k).length = W.length := HOK.out.2.2.2.2.2.1 k (by rw [HHS.out]; exact hlt)
        change IsLB _ _ _ (rowAt (gridL S W) k) at gr
        change IsLB _ _ _ (rowAt H k) at hr
        obtain ⟨ra, rc, hra, _⟩ := id gr
        obtain ⟨sa, sc, hsa, _⟩ := id hr
        rw [hra] at gr g0
        rw [hsa] at hr h0
        rw [gl] at gr g0
        rw [hl] at hr h0
        have GR := hide gr; have HR := hide hr; have GL := hide gl; have HL := hide hl
        clear gr hr gl hl hra hsa
        have w2' := HOK.out.2.1.lo
        obtain ⟨b3, o3, rfl⟩ : ∃ b o, ra = some ⟨b, o, none⟩ := by
          obtain ⟨_, _, hv, _, _, _, h4⟩ := GR.out
          obtain ⟨rfl, _, _⟩ := Value.slice.inj hv
          obtain ⟨b, o, e, _⟩ := h4 (by intro h; have := GL.out; rw [h] at this; simp at this; omega)
          exact ⟨b, o, e⟩
        obtain ⟨b4, o4, rfl⟩ : ∃ b o, sa = some ⟨b, o, none⟩ := by
          obtain ⟨_, _, hv, _, _, _, h4⟩ := HR.out
          obtain ⟨rfl, _, _⟩ := Value.slice.inj hv
          obtain ⟨b, o, e, _⟩ := h4 (by intro h; have := HL.out; rw [h] at this; simp at this; omega)
          exact ⟨b, o, e⟩
        have bt := addF_lim (rowSum (gridL S W) H) 483840000000000000 (by omega) HRL.out (List.range k) 0 0 (by omega) (by omega)
        rw [List.length_range] at bt
        have hte := ht.out
        have bt1 : -7741440000000000000 ≤ t ∧ t ≤ 7741440000000000000 := by omega
        clear bt hte
        go_wp2_with fail
        go_loopw [6, 8] (fun s j wr => ∃ (q n' : Nat) (u : Int), s = .int .i64 u ∧ j = .int .i64 q ∧ q ≤ W.length ∧ Hid (u = t + 2 * (List.range q).foldl (addF (cellP (gridL S W) H k)) 0) ∧ wr = w2.drewN n') (fun _ j _ => W.length - (intOf j).toNat)
        case atStart => exact ⟨0, _, _, rfl, rfl, Nat.zero_le _, hide (by simp), by first | rfl | exact World.drewN_drewN _ _ _⟩
        case round =>
          obtain ⟨q, n', u, rfl, rfl, hq, hu, rfl⟩ := hrel
          by_cases hql : q < W.length
          · have hl4 : (q : Int) < W.length := by omega
            have cx := rowL_at GR.out (i := q) (by rw [GL.out]; exact hql)
            have cy := rowL_at (HR.out.more HB2.out.size) (i := q) (by rw [HL.out]; exact hql)
            have bq := addF_lim (cellP (gridL S W) H k) 69120000000000000 (by omega) (HCL.out k) (List.range q) 0 0 (by omega) (by omega)
            rw [List.length_range] at bq
            have bc := HCL.out k q
            have bg := grid_lim HOK.out.1 HOK.out.2.1 HOK.out.2.2.2.1 k q
            have hsn := range_snoc (cellP (gridL S W) H k) q
            have hue := hu.out
            unfold cellP at bc hsn
            obtain ⟨x, hx⟩ : ∃ x, at_ (rowAt (gridL S W) k) q = x := ⟨_, rfl⟩
            obtain ⟨y, hy⟩ : ∃ y, at_ (rowAt H k) q = y := ⟨_, rfl⟩
            rw [hx] at cx bc bg hsn
            rw [hy] at cy bc hsn
            have hm2 : (2 * x) * y = 2 * (x * y) := Int.mul_assoc _ _ _
            obtain ⟨c, hc⟩ : ∃ c, x * y = c := ⟨_, rfl⟩
            rw [hc] at bc hsn hm2
            obtain ⟨m, hm⟩ : ∃ m, (2 * x) * y = m := ⟨_, rfl⟩
            rw [hm] at hm2
            have k1 : IntKind.i64.wrap (2 * x) = 2 * x := IntWalk.i64_in _ (by omega)
            have k2 : IntKind.i64.wrap m = m := IntWalk.i64_in _ (by omega)
            have k3 : IntKind.i64.wrap (u + m) = u + m := IntWalk.i64_in _ (by omega)
            have HN : Hid (u + m = t + 2 * (List.range (q + 1)).foldl (addF (cellP (gridL S W) H k)) 0) := by
              show _ = _
              have e := hsn
              unfold cellP at hue ⊢
              omega
            clear hsn hue bq bc bg hx hy hc hm2
            go_wp2_with fail
            go_quiet (fail)
            go_wp2_with fail
            go_roundw
            case rel => exact ⟨q + 1, _, _, rfl, by go_num, by omega, HN, by first | rfl | exact World.drewN_drewN _ _ _⟩
            case measure => simp [intOf]; omega
          · have hl4 : ¬ ((q : Int) < W.length) := by omega
            obtain rfl : q = W.length := by omega
            have hsn := range_snoc (rowSum (gridL S W) H) k
            have HN : Hid (u = 2 * (List.range (k + 1)).foldl (addF (rowSum (gridL S W) H)) 0) := by
              show _ = _
              rw [hsn, hu.out, ht.out]
              unfold rowSum
              rw [GL.out]
              omega
            clear hsn
            go_wp2_with fail
            go_roundw
            case rel => exact ⟨k + 1, _, _, rfl, by go_num, by omega, HN, by first | rfl | exact World.drewN_drewN _ _ _⟩
            case measure => simp [intOf]; omega
      · have hl3 : ¬ ((k : Int) < S.length) := by omega
        obtain rfl : k = S.length := by omega
        have hte := ht.out
        rw [← HSD.out] at hte
        have HTE := hide hte
        clear hte ht
        go_wp2_with fail
        go_ret2
        exact ⟨ret_ii HTE.out rfl, below_drewN HB2.out _⟩
  · have e : volE S W H = 0 := by unfold volE; rw [if_neg (by rw [h]; decide)]
    rw [e, h]
    rw [h] at hct
    have HCT := hide hct
    clear hct e h i1 i2 i3
    go_enter Tryd.func7, Tryd.ntmps7
    go_wp2_with fail
    refine (HCT.out _).mono ?_
    rintro e w1 ⟨rfl, hb1⟩
    have hB1 : Below w.heap.size w w1 := ((Below.refl _ _).alloc (Nat.le_refl _) _).trans (hb1.mono (by simp))
    go_wp2_with fail
    go_ret2
    exact ⟨rfl, hB1⟩
end Go.Proofs.YtfbgnnelnpcbiaaDoor
