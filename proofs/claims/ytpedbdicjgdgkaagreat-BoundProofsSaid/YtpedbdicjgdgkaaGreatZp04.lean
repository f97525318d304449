import Derived.Test.YtpedbdicjgdgkaaGreatZp03
import Derived.RegionTactic
import Derived.Outline
import Derived.Test.YtpedbdicjgdgkaaGreatZp02
import Derived.Lib.SlicesCompact
import Derived.Sort.OwnSortedInts
import Derived.Lib.OwnBridge
import Derived.Shelf.Sort.Plain
import Derived.Shelf.Slices.In.SortNone
import Derived.Shelf.Slices.Clone
import Derived.Shelf.Slices.CompactI
import Derived.Shelf.Slices.SearchI
import Derived.Shelf.Slices.Empties
set_option linter.unusedVariables false
set_option linter.unusedSimpArgs false
/- Whether what a proof uses adds up: the program's side. -/
namespace Go.Proofs.YtpedbdicjgdgkaaGreat
open Go Go.RowKit

theorem lmI_at {ls : List Lm} {i : Nat} : lmI ls (i : Int) = lmAt ls i := rfl
/-- What is missing, behind so many uses. -/
def mis (ls : List Lm) (ws : List Int) (us : List Us) : Nat → Int := fun j => ws[j]?.getD 0 - ufl ls us (j : Int)
theorem mis_snoc (ls : List Lm) (ws : List Int) (us : List Us) (u : Us) (la lb : Nat) (t : Int) (ht : u.t = t) (ha : (lmI ls u.l).a = la) (hb : (lmI ls u.l).b = lb) (hne : la ≠ lb) (j : Nat) :
    upd (upd (mis ls ws us) lb (mis ls ws us lb - t)) la (mis ls ws us la + t) j = mis ls ws (us ++ [u]) j := by
  unfold mis upd
  rw [ufl_snoc]
  unfold one
  rw [ha, hb, ht]
  by_cases h1 : j = la
  · subst h1
    have h2 : ¬ ((lb : Int) = (j : Int)) := by omega
    simp only [if_pos, if_neg h2]; omega
  · by_cases h3 : j = lb
    · subst h3
      have h4 : ¬ ((la : Int) = (j : Int)) := by omega
      simp only [if_pos, if_neg h1, if_neg h4]; omega
    · have h4 : ¬ ((la : Int) = (j : Int)) := by omega
      have h5 : ¬ ((lb : Int) = (j : Int)) := by omega
      simp only [if_neg h1, if_neg h3, if_neg h4, if_neg h5]; omega
theorem alls_pos {us : List Us} (h : ∀ u ∈ us, 0 ≤ u.t) : 0 ≤ alls us := by
  induction us with
  | nil => simp [alls]
  | cons u us ih =>
    have h1 := ih fun x hx => h x (List.mem_cons_of_mem _ hx)
    have h2 := h u List.mem_cons_self
    have e2 : alls (u :: us) = u.t + alls us := by simp [alls]
    omega
/-- The flows, as what is missing. -/
theorem flows_mis (many : Int) (ls : List Lm) (ws : List Int) (us : List Us) (h1 : 1 ≤ ws.length) :
    ((List.range (ws.length - 1)).map fun j => mis ls ws us (1 + j)).all (inB (-0) 0) = flows many ls ws us := by
  rw [Bool.eq_iff_iff]
  simp only [flows, List.all_eq_true, List.mem_map, List.mem_range]
  constructor
  · intro h i hi
    by_cases h0 : i = 0
    · simp [h0]
    · have := h (mis ls ws us i) ⟨i - 1, by omega, by congr 1; omega⟩
      simp only [inB, decide_eq_true_eq] at this
      unfold mis at this
      simp only [h0, Bool.or_eq_true, decide_eq_true_eq]
      right; omega
  · rintro h x ⟨j, hj, rfl⟩
    have := h (1 + j) (by omega)
    simp only [Bool.or_eq_true, decide_eq_true_eq, beq_iff_eq] at this
    simp only [inB, decide_eq_true_eq]
    unfold mis
    rcases this with h0 | h0
    · omega
    · omega

set_option maxRecDepth 100000 in
set_option maxHeartbeats 4000000 in
theorem addsUp_w (hclone : ∀ (v : Value) (xs : List Int) (X : World), IsL X v xs → Nice v → xs.length * 8 ≤ 140737488355328 → Calls Tryz.prog 107 #[v] X fun e w' => ∃ v', e = .returned v' ∧ OwI X.heap.size w' v' xs ∧ Below X.heap.size X w')
    (many : Int) (a : Option Addr) (n cap : Nat) (ls : List Lm) (aw : Option Addr) (nw cw : Nat) (ws : List Int) (B : Int) (au : Option Addr) (nu cu : Nat) (us : List Us) (w : World)
    (hS : IsS w (.slice a n cap) ls) (hW : IsL w (.slice aw nw cw) ws) (hN : Nice (.slice aw nw cw)) (hU : IsU w (.slice au nu cu) us) (hck : ckW many ls ws = 0) :
    Calls Tryz.prog 92 #[.agg #[.int .i64 many, .slice a n cap], .slice aw nw cw, .agg #[.int .i64 B, .slice au nu cu]] w fun e w' => e = .returned (.bool (uok ls.length (-1) 0 us && (decide (bnd ls us = B) && flows many ls ws us))) ∧ Below w.heap.size w w' := by
  obtain ⟨hcS, hwl, hwz⟩ := ckW_ok hck
  obtain ⟨hm0, hm1, hll, hlv⟩ := ckS_in hcS
  have HSZ := hide (szd_size ws _ hwz)
  have HLV : Hid (∀ l ∈ ls, ckL many l = 0) := hlv
  have HC := fun (X : World) => fun (hX : Below w.heap.size w X) => hide (hclone (.slice aw nw cw) ws X (hW.below hX) hN (by omega))
  have HWF := hide hW.fb
  obtain ⟨a', cap', hv, s1, s2, s3, s4⟩ := hS
  cases hv
  obtain ⟨au', cu', hv, u1, u2, u3, u4⟩ := hU
  cases hv
  unfold maxLen at s2 u2
  have HUF : Hid (∀ u ∈ us, FU u) := u3
  have HWL := hide hwl
  clear s3 u3 hclone hcS hwz hlv hW hck hN hwl
  have KC := hide (show ∀ V, Below (w.heap.size + 1 + 1) ((w.alloc (.cells #[.int .i64 many, .slice a ls.length cap] 24)).alloc (.cells #[.int .i64 B, .slice au us.length cu] 54)) V → V.cell? ⟨w.heap.size, 1, none⟩ = some (.slice a ls.length cap) ∧ V.cell? ⟨w.heap.size + 1, 0, none⟩ = some (.int .i64 B) ∧ V.cell? ⟨w.heap.size + 1, 1, none⟩ = some (.slice au us.length cu) from fun V hV => by
    have c : ∀ b o u, b < w.heap.size + 1 + 1 → ((w.alloc (.cells #[.int .i64 many, .slice a ls.length cap] 24)).alloc (.cells #[.int .i64 B, .slice au us.length cu] 54)).cell? ⟨b, o, none⟩ = some u → V.cell? ⟨b, o, none⟩ = some u := fun b o u hlt h => (hV.cell (p := ⟨b, o, none⟩) hlt).trans h
    exact ⟨c _ _ _ (by omega) ((cell_old (by simp)).trans (cell_new rfl)), c _ _ _ (by omega) (cell_new (by simp)), c _ _ _ (by omega) (cell_new (by simp))⟩)
  have HBS : Hid (Below w.heap.size w ((w.alloc (.cells #[.int .i64 many, .slice a ls.length cap] 24)).alloc (.cells #[.int .i64 B, .slice au us.length cu] 54))) := hide (((Below.refl _ w).alloc (Nat.le_refl _) _).alloc (by simp) _)
  go_enter Tryz.func92, Tryz.ntmps92
  go_wp2_with (go_at_call 107; go_loud (refine (HC _ HBS.out).out.mono ?_; rintro e w1 ⟨v1, rfl, ho1, hb1⟩; have hz1 := hb1.size; simp at hz1; have hb1' := hb1.mono (B' := w.heap.size + 1 + 1) (by simp); obtain ⟨q0, q1, q2⟩ := KC.out _ hb1'; obtain ⟨g, c1, rfl⟩ : ∃ g c, v1 = .slice (some ⟨g, 0, none⟩) ws.length c := (by obtain ⟨g, c, e, _⟩ := World.ownsRow.form ho1 (by have := HWL.out; omega); exact ⟨g, c, e⟩); obtain ⟨hg0, hg1⟩ := World.ownsRow.lt ho1 g rfl; have hg0' : w.heap.size + 1 + 1 ≤ g := (by simpa using hg0)))
  have hown := RowF.own ho1 rfl
  have HM0 := hide (hown.cong (f' := mis ls ws []) (fun j _ => by simp [mis, ufl]))
  have HGC : Hid (ws.length ≤ c1 ∧ c1 ≤ maxLen) := hide (by
    rcases ho1.2 with ⟨e, _⟩ | ⟨g', cap', cur, e, _, _, h5, h6, _⟩
    · cases e
    · cases e; exact ⟨h5, h6⟩)
  have HB1 := hide hb1'
  have HB0 := hide (HBS.out.trans (hb1'.mono (by omega)))
  have HG := hide hg0'
  clear hown ho1 hb1 hb1' hz1 hg0 hg0' HC KC HBS
  go_outline
  go_loopw [8, 9, 10, 19] (fun p al sm i wr => ∃ (k : Nat) (P A S : Int), p = .int .i64 P ∧ al = .int .i64 A ∧ sm = .int .i64 S ∧ i = .int .i64 k ∧ k ≤ us.length ∧ -1 ≤ P ∧ P ≤ 400 ∧ 0 ≤ A ∧ A ≤ 230400000000000 ∧ Hid (A = alls (us.take k) ∧ S = bnd ls (us.take k) ∧ uok ls.length (-1) 0 us = uok ls.length P A (us.drop k) ∧ ∀ u ∈ us.take k, 0 ≤ u.t ∧ 0 ≤ u.l ∧ u.l ≤ (ls.length : Int) - 1) ∧ Hid (RowF wr g ws.length (mis ls ws (us.take k))) ∧ Hid (Below (w.heap.size + 1 + 1) w1 wr) ∧ g < wr.heap.size) (fun _ _ _ i _ => us.length - (intOf i).toNat)
  case atStart => exact ⟨0, -1, 0, 0, rfl, rfl, rfl, rfl, Nat.zero_le _, by decide, by decide, by decide, by decide, hide ⟨by simp [alls], by simp [bnd], by simp, by simp⟩, HM0, hide (Below.refl _ _), hg1⟩
  case round =>
    obtain ⟨k, P, A, S, rfl, rfl, rfl, rfl, hk, hP0, hP1, hA0, hA1, hinv, hrow, hbw, hgw⟩ := hrel
    have q0' := (hbw.out.cell (p := ⟨w.heap.size, 1, none⟩) (by show w.heap.size < _; omega)).trans q0
    have q1' := (hbw.out.cell (p := ⟨w.heap.size + 1, 0, none⟩) (by show w.heap.size + 1 < _; omega)).trans q1
    have q2' := (hbw.out.cell (p := ⟨w.heap.size + 1, 1, none⟩) (by show w.heap.size + 1 < _; omega)).trans q2
    have HBW : Hid (Below w.heap.size w wr) := hide (HB0.out.trans (hbw.out.mono (by omega)))
    have hz5 : w.heap.size < wr.heap.size := by have := HG.out; omega
    have hz6 : w.heap.size + 1 < wr.heap.size := by have := HG.out; omega
    by_cases hlt : k < us.length
    · obtain ⟨b, off, rfl, hbl, hc⟩ := u4 (by intro h; subst h; simp at hlt)
      obtain ⟨u, hu⟩ : ∃ u, usAt us k = u := ⟨_, rfl⟩
      have hck := (hc k hlt).below HBW.out hbl
      rw [hu] at hck
      obtain ⟨d1, d2⟩ := hck
      have hfu : FU u := by rw [← hu]; exact usAt_FU HUF.out hlt
      have HD : Hid (us.drop k = u :: us.drop (k + 1) ∧ us.take (k + 1) = us.take k ++ [u]) := by rw [← hu]; exact ⟨us_drop us k hlt, us_take us k hlt⟩
      have hbw' : b < wr.heap.size := by have := HBW.out.size; omega
      clear hu hc
      obtain ⟨x, t, rfl⟩ : ∃ x t : Int, u = ⟨x, t⟩ := ⟨u.l, u.t, rfl⟩
      simp only at d1 d2
      obtain ⟨⟨f1, f2⟩, f3, f4⟩ := hfu
      simp only at f1 f2 f3 f4
      cases e1 : inB (P + 1) ((ls.length : Int) - 1) x
      · have HN : Hid (uok ls.length (-1) 0 us = false) := by
          show _ = _
          rw [hinv.out.2.2.1, HD.out.1, uok_no _ _ _ _ _ (by intro h; rw [inB_t ⟨h.1, h.2.1⟩] at e1; cases e1)]
        have hin := fun w => hide (inside_w e1 w)
        clear e1 hinv HD
        go_wp2_with (go_at_call 63; with_reducible refine (hin _).out.mono ?_; rintro e w2 ⟨rfl, rfl⟩)
        go_ret
        exact ⟨ret_bool (by rw [HN.out]; rfl), by have := HBW.out; exact (by repeat (first | exact Below.refl _ _ | assumption | refine Below.alloc ?_ (by first | omega | (simp; omega) | simp) _ | refine Below.setCell ?_ (by first | omega | (simp; omega) | simp) _ | refine below_drewN ?_ _ | refine Below.drew ?_ | refine back ?_ (by assumption)))⟩
      cases e2 : inB 1 3600000000000 t
      · have HN : Hid (uok ls.length (-1) 0 us = false) := by
          show _ = _
          rw [hinv.out.2.2.1, HD.out.1, uok_no _ _ _ _ _ (by intro h; rw [inB_t ⟨h.2.2.1, h.2.2.2.1⟩] at e2; cases e2)]
        have hin := fun w => hide (inside_w e1 w)
        have hin2 := fun w => hide (inside_w e2 w)
        clear e1 e2 hinv HD
        go_wp2_with (go_at_call 63; (first | with_reducible refine (hin _).out.mono ?_ | with_reducible refine (hin2 _).out.mono ?_); rintro e w2 ⟨rfl, rfl⟩)
        go_ret
        exact ⟨ret_bool (by rw [HN.out]; rfl), by have := HBW.out; exact (by repeat (first | exact Below.refl _ _ | assumption | refine Below.alloc ?_ (by first | omega | (simp; omega) | simp) _ | refine Below.setCell ?_ (by first | omega | (simp; omega) | simp) _ | refine below_drewN ?_ _ | refine Below.drew ?_ | refine back ?_ (by assumption)))⟩
      have hin := fun w => hide (inside_w e1 w)
      have hin2 := fun w => hide (inside_w e2 w)
      simp only [inB, decide_eq_true_eq] at e1 e2
      by_cases e3 : A + t ≤ 230400000000000
      rotate_left
      · have HN : Hid (uok ls.length (-1) 0 us = false) := by
          show _ = _
          rw [hinv.out.2.2.1, HD.out.1, uok_no _ _ _ _ _ (by intro h; exact e3 h.2.2.2.2)]
        clear hinv HD
        go_wp2_with (go_at_call 63; (first | with_reducible refine (hin _).out.mono ?_ | with_reducible refine (hin2 _).out.mono ?_); rintro e w2 ⟨rfl, rfl⟩)
        go_ret
        exact ⟨ret_bool (by rw [HN.out]; rfl), by have := HBW.out; exact (by repeat (first | exact Below.refl _ _ | assumption | refine Below.alloc ?_ (by first | omega | (simp; omega) | simp) _ | refine Below.setCell ?_ (by first | omega | (simp; omega) | simp) _ | refine below_drewN ?_ _ | refine Below.drew ?_ | refine back ?_ (by assumption)))⟩
      obtain ⟨j, rfl⟩ : ∃ j : Nat, x = j := ⟨x.toNat, by omega⟩
      have hjl : j < ls.length := by omega
      obtain ⟨b2, off2, rfl, hbl2, hc2⟩ := s4 (by intro h; subst h; simp at hjl)
      obtain ⟨l, hl⟩ : ∃ l, lmAt ls j = l := ⟨_, rfl⟩
      have hck2 := (hc2 j hjl).below HBW.out hbl2
      have hlv := HLV.out (lmAt ls j) (by simp [lmAt, hjl])
      rw [hl] at hck2 hlv
      obtain ⟨m1, m2, m3, m4⟩ := hck2
      obtain ⟨_, _, v1, v2, v3, v4, v5, v6, _, _⟩ := ckL_in hlv
      have hlab : l.a ≠ l.b := by intro h; unfold ckL at hlv; rw [h] at hlv; simp at hlv
      obtain ⟨la, hla⟩ : ∃ q : Nat, l.a = q := ⟨l.a.toNat, by omega⟩
      obtain ⟨lb, hlb⟩ : ∃ q : Nat, l.b = q := ⟨l.b.toNat, by omega⟩
      obtain ⟨lm, hlm⟩ : ∃ q : Int, l.m = q := ⟨_, rfl⟩
      have HL : Hid (lmI ls j = l) := hl
      rw [hla] at m1; rw [hlb] at m2; rw [hlm] at m3
      have hne : la ≠ lb := by omega
      have hA1 : la < ws.length := by have := HWL.out; omega
      have hA2 : lb < ws.length := by have := HWL.out; omega
      have hlm1 : -20000 ≤ lm := by omega
      have hlm2 : lm ≤ 20000 := by omega
      have hbw2 : b2 < wr.heap.size := by have := HBW.out.size; omega
      clear hc2 hl v1 v2 v3 v4 v5 v6
      have hsm : ∀ q : Nat, q < ws.length → -240000000000000 ≤ mis ls ws (us.take k) q ∧ mis ls ws (us.take k) q ≤ 240000000000000 := by
        intro q hq
        have h1 := HSZ.out (ws[q]) (List.getElem_mem hq)
        have h2 := ufl_le ls (us.take k) (fun u hu => (hinv.out.2.2.2 u hu).1) q
        rw [← hinv.out.1] at h2
        unfold mis
        have e : ws[q]?.getD 0 = ws[q] := by simp [hq]
        rw [e]; omega
      have hya := hrow.out.c la hA1
      have hyb := hrow.out.c lb hA2
      have hza := hrow.out.z la
      have hzb := hrow.out.z lb
      have hba := hsm la hA1
      have hbb := hsm lb hA2
      clear hsm
      have hbS := bnd_le ls (us.take k) (fun u hu => (hinv.out.2.2.2 u hu).1) (fun u hu => by
        have h1 := hinv.out.2.2.2 u hu
        have h2 := ckL_in (HLV.out _ (lmI_mem h1.2.1 h1.2.2))
        omega)
      rw [← hinv.out.1, ← hinv.out.2.1] at hbS
      obtain ⟨hbS1, hbS2⟩ := hbS
      have hx1 : t * lm ≤ t * 20000 := Int.mul_le_mul_of_nonneg_left hlm2 (by omega)
      have hx2 : t * (-20000) ≤ t * lm := Int.mul_le_mul_of_nonneg_left hlm1 (by omega)
      have HRS := hide (fun W : World => fun hW : RowF W g ws.length (upd (upd (mis ls ws (us.take k)) lb (mis ls ws (us.take k) lb - t)) la (mis ls ws (us.take k) la + t)) => hW.cong (f' := mis ls ws (us.take (k + 1))) (fun q _ => by rw [HD.out.2]; exact mis_snoc ls ws _ _ la lb t rfl (by rw [show (Us.mk (j : Int) t).l = j from rfl, HL.out, hla]) (by rw [show (Us.mk (j : Int) t).l = j from rfl, HL.out, hlb]) hne q))
      have HRR := hide (fun W : World => fun hW : RowF W g ws.length (mis ls ws (us.take k)) => ((hW.set lb (mis ls ws (us.take k) lb - t) hA2)).set la (mis ls ws (us.take k) la + t) hA1)
      obtain ⟨ya, hyA⟩ : ∃ q, mis ls ws (us.take k) la = q := ⟨_, rfl⟩
      obtain ⟨yb, hyB⟩ : ∃ q, mis ls ws (us.take k) lb = q := ⟨_, rfl⟩
      rw [hyA] at hya hba HRS HRR
      rw [hyB] at hyb hbb HRS HRR
      obtain ⟨ba1, ba2⟩ := hba
      obtain ⟨bb1, bb2⟩ := hbb
      obtain ⟨t1, t2⟩ := e2
      clear hyA hyB hla hlb HSZ
      have hne' : ¬ lb = la := fun h => hne h.symm
      go_wp2_with (go_at_call 63; (first | with_reducible refine (hin _).out.mono ?_ | with_reducible refine (hin2 _).out.mono ?_); rintro e w2 ⟨rfl, rfl⟩)
      go_region
      go_wp2
      go_region
      go_wp2
      have hb9 : Below (w.heap.size + 1 + 1) w1 ((((wr.setCell ⟨g, lb, none⟩ (.int .i64 (yb - t))).setCell ⟨g, la, none⟩ (.int .i64 (ya + t))).alloc (.cells #[.int .i64 j, .int .i64 t] 103)).alloc (.cells #[.int .i64 la, .int .i64 lb, .int .i64 lm, .int .i64 l.y] 26)) := by
        have := hbw.out.size
        have h0 := HG.out
        exact (((hbw.out.setCell h0 _).setCell h0 _).alloc (by simp; omega) _).alloc (by simp; omega) _
      refine ⟨⟨k + 1, j, A + t, S + t * lm, rfl, rfl, by go_num, by go_num, by omega, by omega, by omega, by omega, by omega, hide ⟨?_, ?_, ?_, ?_⟩, hide ?_, hide (by refine Below.drew (Below.drew hb9)), by simp; omega⟩, by simp [intOf]; omega⟩
      · rw [HD.out.2, alls_snoc, hinv.out.1]
      · rw [HD.out.2, bnd_snoc, hinv.out.2.1, show (Us.mk (j : Int) t).l = j from rfl, HL.out, hlm]
      · rw [hinv.out.2.2.1, HD.out.1, uok_cons _ _ _ _ _ ⟨e1.1, e1.2, t1, t2, e3⟩]
      · intro u hu
        rw [HD.out.2] at hu
        rcases List.mem_append.1 hu with hu | hu
        · exact hinv.out.2.2.2 u hu
        · rw [List.mem_singleton.1 hu]; exact ⟨by show (0 : Int) ≤ t; omega, by show (0 : Int) ≤ (j : Int); omega, by show (j : Int) ≤ _; omega⟩
      · have r1 := HRR.out wr hrow.out
        have r2 := RowF.keep r1 ((Below.refl _ _).alloc (Nat.le_refl _) (.cells #[.int .i64 j, .int .i64 t] 103)) (by simpa using hgw)
        have r3 := RowF.keep r2 ((Below.refl _ _).alloc (Nat.le_refl _) (.cells #[.int .i64 la, .int .i64 lb, .int .i64 lm, .int .i64 l.y] 26)) (by simp; omega)
        exact HRS.out _ ⟨r3.c, r3.z⟩
    · have hkl : k = us.length := by omega
      subst hkl
      have HE : Hid (uok ls.length (-1) 0 us = true ∧ S = bnd ls us) := by
        refine ⟨?_, ?_⟩
        · rw [hinv.out.2.2.1, List.drop_length]; rfl
        · have := hinv.out.2.1; rw [List.take_length] at this; exact this
      have HR := hrow
      rw [List.take_length] at HR
      by_cases hSB : S = B
      · have hSB' : (S == B) = true := by simpa using hSB
        have HF := hide (fun (X : World) (hX : Below wr.heap.size wr X) => (HR.out.keep hX hgw).isL (cap := c1) (Nat.lt_of_lt_of_le hgw hX.size) HGC.out.1 HGC.out.2 (by
          intro q hq
          have h1 := HSZ.out (ws[q]) (List.getElem_mem hq)
          have h2 := ufl_le ls us (fun u hu => (hinv.out.2.2.2 u (by rw [List.take_length]; exact hu)).1) q
          have h3 := hinv.out.1
          rw [List.take_length] at h3
          rw [← h3] at h2
          unfold mis
          have e : ws[q]?.getD 0 = ws[q] := by simp [hq]
          rw [e]; constructor <;> omega) 1 (by have := HWL.out; omega))
        have hfl := flows_mis many ls ws us (by have := HWL.out; omega)
        have HA := hide (fun (n' c' : Nat) (o : Nat) (X : World) (h : IsL X (.slice (some ⟨g, o, none⟩) n' c') ((List.range (ws.length - 1)).map fun j => mis ls ws us (1 + j))) => (show Calls Tryz.prog 79 #[.slice (some ⟨g, o, none⟩) n' c', .int .i64 0] X fun e w' => e = .returned (.bool (flows many ls ws us)) ∧ X = w' from by have := allInside_w _ n' c' _ 0 (by decide) (by decide) X h; rw [hfl] at this; exact this))
        obtain ⟨hgc1, hgc2⟩ := HGC.out
        have hw1 : 1 ≤ ws.length := by have := HWL.out; omega
        clear hfl
        by_cases hc1 : c1 = 1
        · have hwl1 : ws.length = 1 := by omega
          have HI := hide (fun X : World => (show IsL X (.slice (some ⟨g, 0, none⟩) 0 0) ((List.range (ws.length - 1)).map fun j => mis ls ws us (1 + j)) from by rw [hwl1]; exact ⟨some _, 0, rfl, Nat.le_refl _, Nat.zero_le _, by simp, fun h => absurd rfl h⟩))
          subst hc1
          go_wp2_with (go_at_call 79; refine (HA.out _ _ _ _ (HI.out _)).mono ?_; rintro e w2 ⟨rfl, rfl⟩)
          go_ret
          exact ⟨ret_bool (by rw [HE.out.1, ← HE.out.2, decide_eq_true hSB]; rfl), by have := HBW.out; exact (by repeat (first | exact Below.refl _ _ | assumption | refine Below.alloc ?_ (by first | omega | (simp; omega) | simp) _ | refine Below.setCell ?_ (by first | omega | (simp; omega) | simp) _ | refine below_drewN ?_ _ | refine Below.drew ?_ | refine back ?_ (by assumption)))⟩
        · go_wp2_with (go_at_call 79; refine (HA.out _ _ _ _ (HF.out _ (by repeat (first | exact Below.refl _ _ | assumption | refine Below.alloc ?_ (by first | omega | (simp; omega) | simp) _ | refine Below.setCell ?_ (by first | omega | (simp; omega) | simp) _ | refine below_drewN ?_ _ | refine Below.drew ?_ | refine back ?_ (by assumption))))).mono ?_; rintro e w2 ⟨rfl, rfl⟩)
          go_ret
          exact ⟨ret_bool (by rw [HE.out.1, ← HE.out.2, decide_eq_true hSB]; rfl), by have := HBW.out; exact (by repeat (first | exact Below.refl _ _ | assumption | refine Below.alloc ?_ (by first | omega | (simp; omega) | simp) _ | refine Below.setCell ?_ (by first | omega | (simp; omega) | simp) _ | refine below_drewN ?_ _ | refine Below.drew ?_ | refine back ?_ (by assumption)))⟩
      · have hSB' : (S == B) = false := by simpa using hSB
        go_wp2
        go_ret
        exact ⟨ret_bool (by rw [HE.out.1, ← HE.out.2, decide_eq_false hSB]; rfl), by have := HBW.out; exact (by repeat (first | exact Below.refl _ _ | assumption | refine Below.alloc ?_ (by first | omega | (simp; omega) | simp) _ | refine Below.setCell ?_ (by first | omega | (simp; omega) | simp) _ | refine below_drewN ?_ _ | refine Below.drew ?_ | refine back ?_ (by assumption)))⟩
end Go.Proofs.YtpedbdicjgdgkaaGreat

/- Whether weights are some for a system: both sides. -/
namespace Go.Proofs.YtpedbdicjgdgkaaGreat
open Go Go.RowKit

theorem box2_in {w w1 : World} {x y : Value} {t : TypeId} (hb : Below (w.alloc (.cells #[x, y] t)).heap.size (w.alloc (.cells #[x, y] t)) w1) : w1.cell? ⟨w.heap.size, 0, none⟩ = some x ∧ w1.cell? ⟨w.heap.size, 1, none⟩ = some y ∧ w.heap.size < w1.heap.size :=
  ⟨(hb.cell (p := ⟨w.heap.size, 0, none⟩) (by simp)).trans (cell_new rfl), (hb.cell (p := ⟨w.heap.size, 1, none⟩) (by simp)).trans (cell_new rfl), by have := hb.size; simp at this; omega⟩
set_option maxRecDepth 100000 in
set_option maxHeartbeats 4000000 in
theorem checkWeights_w (many : Int) (a : Option Addr) (n cap : Nat) (ls : List Lm) (aw : Option Addr) (nw cw : Nat) (ws : List Int) (w : World) (h : IsS w (.slice a n cap) ls) (hW : IsL w (.slice aw nw cw) ws) :
    Calls Tryz.prog 91 #[.agg #[.int .i64 many, .slice a n cap], .slice aw nw cw] w fun e w' => e = .returned (.int .i64 (ckW many ls ws)) ∧ Below w.heap.size w w' := by
  have hcs := fun (X : World) => fun (hX : Below w.heap.size w X) => hide (scheck_w many a n cap ls X (h.below hX))
  have hcw := fun (X : World) => fun (hX : Below w.heap.size w X) => hide (weighs_w aw nw cw ws X (hW.below hX))
  obtain ⟨_, _, hv, _, hmx, _⟩ := hW
  cases hv
  unfold maxLen at hmx
  clear h
  by_cases h0 : ckS many ls = 0
  · rw [h0] at hcs
    obtain ⟨hm1, hm2⟩ : 0 ≤ many ∧ many ≤ 64 := ⟨(ckS_in h0).1, (ckS_in h0).2.1⟩
    by_cases hl : (ws.length : Int) = many + 1
    · have hl1 : ((ws.length : Int) != many + 1) = false := by simpa using hl
      obtain ⟨z, hz⟩ : ∃ z, szd 3600000000000 ws = z := ⟨_, rfl⟩
      have HR : Hid (ckW many ls ws = if z = true then 0 else 27) := by show _ = _; unfold ckW; rw [if_pos h0, hz]; cases z <;> simp [hl]
      rw [hz] at hcw
      clear hz h0 hl
      cases z
      all_goals
        go_enter Tryz.func91, Tryz.ntmps91
        go_wp2_with (first
          | (go_at_call 15; refine (hcs _ (by repeat (first | exact Below.refl _ _ | assumption | refine Below.alloc ?_ (by first | omega | (simp; omega) | simp) _ | refine Below.setCell ?_ (by first | omega | (simp; omega) | simp) _ | refine below_drewN ?_ _ | refine Below.drew ?_ | refine back ?_ (by assumption)))).out.mono ?_; rintro e w1 ⟨rfl, hb1⟩; obtain ⟨q0, q1, q2⟩ := box2_in hb1)
          | (go_at_call 78; refine (hcw _ (by repeat (first | exact Below.refl _ _ | assumption | refine Below.alloc ?_ (by first | omega | (simp; omega) | simp) _ | refine Below.setCell ?_ (by first | omega | (simp; omega) | simp) _ | refine below_drewN ?_ _ | refine Below.drew ?_ | refine back ?_ (by assumption)))).out.mono ?_; rintro e w2 ⟨rfl, rfl⟩))
        go_ret
        exact ⟨ret_int (by rw [HR.out]; rfl), (by repeat (first | exact Below.refl _ _ | assumption | refine Below.alloc ?_ (by first | omega | (simp; omega) | simp) _ | refine Below.setCell ?_ (by first | omega | (simp; omega) | simp) _ | refine below_drewN ?_ _ | refine Below.drew ?_ | refine back ?_ (by assumption)))⟩
    · have hl1 : ((ws.length : Int) != many + 1) = true := by simpa using hl
      have HR : Hid (ckW many ls ws = 27) := by show _ = _; unfold ckW; rw [if_pos h0, if_neg (fun h => hl h.1)]
      clear h0 hl
      go_enter Tryz.func91, Tryz.ntmps91
      go_wp2_with (go_at_call 15; refine (hcs _ (by repeat (first | exact Below.refl _ _ | assumption | refine Below.alloc ?_ (by first | omega | (simp; omega) | simp) _ | refine Below.setCell ?_ (by first | omega | (simp; omega) | simp) _ | refine below_drewN ?_ _ | refine Below.drew ?_ | refine back ?_ (by assumption)))).out.mono ?_; rintro e w1 ⟨rfl, hb1⟩; obtain ⟨q0, q1, q2⟩ := box2_in hb1)
      go_ret
      exact ⟨ret_int HR.out.symm, (by repeat (first | exact Below.refl _ _ | assumption | refine Below.alloc ?_ (by first | omega | (simp; omega) | simp) _ | refine Below.setCell ?_ (by first | omega | (simp; omega) | simp) _ | refine below_drewN ?_ _ | refine Below.drew ?_ | refine back ?_ (by assumption)))⟩
  · have HR : Hid (ckW many ls ws = ckS many ls) := by show _ = _; unfold ckW; rw [if_neg h0]
    obtain ⟨r, hr⟩ : ∃ r, ckS many ls = r := ⟨_, rfl⟩
    rw [hr] at h0 hcs HR
    have h1 : (r != 0) = true := by simpa using h0
    clear hr h0
    go_enter Tryz.func91, Tryz.ntmps91
    go_wp2_with (go_at_call 15; refine (hcs _ (by repeat (first | exact Below.refl _ _ | assumption | refine Below.alloc ?_ (by first | omega | (simp; omega) | simp) _ | refine Below.setCell ?_ (by first | omega | (simp; omega) | simp) _ | refine below_drewN ?_ _ | refine Below.drew ?_ | refine back ?_ (by assumption)))).out.mono ?_; rintro e w1 ⟨rfl, hb1⟩)
    go_ret
    exact ⟨ret_int HR.out.symm, (by repeat (first | exact Below.refl _ _ | assumption | refine Below.alloc ?_ (by first | omega | (simp; omega) | simp) _ | refine Below.setCell ?_ (by first | omega | (simp; omega) | simp) _ | refine below_drewN ?_ _ | refine Below.drew ?_ | refine back ?_ (by assumption)))⟩
set_option maxRecDepth 100000 in
set_option maxHeartbeats 4000000 in
theorem weightsOf_w (many : Int) (a : Option Addr) (n cap : Nat) (aw : Option Addr) (nw cw : Nat) (ws : List Int) (w : World) (hW : IsL w (.slice aw nw cw) ws) (hm1 : 0 ≤ many) (hm2 : many ≤ 64) :
    Calls Tryz.prog 118 #[.agg #[.int .i64 many, .slice a n cap], .slice aw nw cw] w fun e w' => e = .returned (.bool (decide ((ws.length : Int) = many + 1) && szd 3600000000000 ws)) ∧ Below w.heap.size w w' := by
  have hcw := fun (X : World) => fun (hX : Below w.heap.size w X) => hide (sized_w aw nw cw ws X (hW.below hX))
  obtain ⟨_, _, hv, _, hmx, _⟩ := hW
  cases hv
  unfold maxLen at hmx
  by_cases hl : (ws.length : Int) = many + 1
  · have hl1 : ((ws.length : Int) == many + 1) = true := by simpa using hl
    obtain ⟨z, hz⟩ : ∃ z, szd 3600000000000 ws = z := ⟨_, rfl⟩
    have HR : Hid ((decide ((ws.length : Int) = many + 1) && szd 3600000000000 ws) = z) := by show _ = _; rw [hz, decide_eq_true hl]; rfl
    rw [hz] at hcw
    clear hz hl
    go_enter Tryz.func118, Tryz.ntmps118
    go_wp2_with (go_at_call 80; refine (hcw _ (by repeat (first | exact Below.refl _ _ | assumption | refine Below.alloc ?_ (by first | omega | (simp; omega) | simp) _ | refine Below.setCell ?_ (by first | omega | (simp; omega) | simp) _ | refine below_drewN ?_ _ | refine Below.drew ?_ | refine back ?_ (by assumption)))).out.mono ?_; rintro e w2 ⟨rfl, rfl⟩)
    go_ret
    exact ⟨ret_bool HR.out.symm, (by repeat (first | exact Below.refl _ _ | assumption | refine Below.alloc ?_ (by first | omega | (simp; omega) | simp) _ | refine Below.setCell ?_ (by first | omega | (simp; omega) | simp) _ | refine below_drewN ?_ _ | refine Below.drew ?_ | refine back ?_ (by assumption)))⟩
  · have hl1 : ((ws.length : Int) == many + 1) = false := by simpa using hl
    have HR : Hid ((decide ((ws.length : Int) = many + 1) && szd 3600000000000 ws) = false) := by show _ = _; rw [decide_eq_false hl]; rfl
    clear hl
    go_enter Tryz.func118, Tryz.ntmps118
    go_wp2
    go_ret
    exact ⟨ret_bool HR.out.symm, (by repeat (first | exact Below.refl _ _ | assumption | refine Below.alloc ?_ (by first | omega | (simp; omega) | simp) _ | refine Below.setCell ?_ (by first | omega | (simp; omega) | simp) _ | refine below_drewN ?_ _ | refine Below.drew ?_ | refine back ?_ (by assumption)))⟩
set_option maxRecDepth 100000 in
set_option maxHeartbeats 4000000 in
theorem asked_w (many : Int) (a : Option Addr) (n cap : Nat) (ls : List Lm) (aw : Option Addr) (nw cw : Nat) (ws : List Int) (w : World) (h : IsS w (.slice a n cap) ls) (hW : IsL w (.slice aw nw cw) ws) :
    Calls Tryz.prog 85 #[.agg #[.int .i64 many, .slice a n cap], .slice aw nw cw] w fun e w' => e = .returned (.int .i64 (ckW many ls ws)) ∧ Below w.heap.size w w' := by
  have hcs := fun (X : World) => fun (hX : Below w.heap.size w X) => hide (rscheck_w many a n cap ls X (h.below hX))
  by_cases h0 : ckS many ls = 0
  · obtain ⟨hm1, hm2⟩ : 0 ≤ many ∧ many ≤ 64 := ⟨(ckS_in h0).1, (ckS_in h0).2.1⟩
    have hcw := fun (X : World) => fun (hX : Below w.heap.size w X) => hide (weightsOf_w many a n cap aw nw cw ws X (hW.below hX) hm1 hm2)
    rw [h0] at hcs
    obtain ⟨z, hz⟩ : ∃ z, (decide ((ws.length : Int) = many + 1) && szd 3600000000000 ws) = z := ⟨_, rfl⟩
    have HR : Hid (ckW many ls ws = if z = true then 0 else 27) := by
      show _ = _; unfold ckW; rw [if_pos h0, ← hz]
      by_cases hl : (ws.length : Int) = many + 1 <;> simp [hl]
    rw [hz] at hcw
    clear hz h0 h hW
    cases z
    all_goals
      go_enter Tryz.func85, Tryz.ntmps85
      go_wp2_with (first
        | (go_at_call 16; refine (hcs _ (by repeat (first | exact Below.refl _ _ | assumption | refine Below.alloc ?_ (by first | omega | (simp; omega) | simp) _ | refine Below.setCell ?_ (by first | omega | (simp; omega) | simp) _ | refine below_drewN ?_ _ | refine Below.drew ?_ | refine back ?_ (by assumption)))).out.mono ?_; rintro e w1 ⟨rfl, hb1⟩; obtain ⟨q0, q1, q2⟩ := box2_in hb1)
        | (go_at_call 118; refine (hcw _ (by repeat (first | exact Below.refl _ _ | assumption | refine Below.alloc ?_ (by first | omega | (simp; omega) | simp) _ | refine Below.setCell ?_ (by first | omega | (simp; omega) | simp) _ | refine below_drewN ?_ _ | refine Below.drew ?_ | refine back ?_ (by assumption)))).out.mono ?_; rintro e w2 ⟨rfl, hb2⟩))
      go_ret
      exact ⟨ret_int (by rw [HR.out]; rfl), (by repeat (first | exact Below.refl _ _ | assumption | refine Below.alloc ?_ (by first | omega | (simp; omega) | simp) _ | refine Below.setCell ?_ (by first | omega | (simp; omega) | simp) _ | refine below_drewN ?_ _ | refine Below.drew ?_ | refine back ?_ (by assumption)))⟩
  · have HR : Hid (ckW many ls ws = ckS many ls) := by show _ = _; unfold ckW; rw [if_neg h0]
    obtain ⟨r, hr⟩ : ∃ r, ckS many ls = r := ⟨_, rfl⟩
    rw [hr] at h0 hcs HR
    have h1 : (r == 0) = false := by simpa using h0
    clear hr h0 h hW
    go_enter Tryz.func85, Tryz.ntmps85
    go_wp2_with (go_at_call 16; refine (hcs _ (by repeat (first | exact Below.refl _ _ | assumption | refine Below.alloc ?_ (by first | omega | (simp; omega) | simp) _ | refine Below.setCell ?_ (by first | omega | (simp; omega) | simp) _ | refine below_drewN ?_ _ | refine Below.drew ?_ | refine back ?_ (by assumption)))).out.mono ?_; rintro e w1 ⟨rfl, hb1⟩)
    go_ret
    exact ⟨ret_int HR.out.symm, (by repeat (first | exact Below.refl _ _ | assumption | refine Below.alloc ?_ (by first | omega | (simp; omega) | simp) _ | refine Below.setCell ?_ (by first | omega | (simp; omega) | simp) _ | refine below_drewN ?_ _ | refine Below.drew ?_ | refine back ?_ (by assumption)))⟩
end Go.Proofs.YtpedbdicjgdgkaaGreat

/- What a sorted row holds once each: the same as the sources of the reference. -/
namespace Go.Proofs.YtpedbdicjgdgkaaGreat
open Go Go.RowKit Go.Lib

theorem srt_le (zs : List Int) (h : zs.Pairwise (· ≤ ·)) (i j : Nat) (hij : i ≤ j) (hj : j < zs.length) : zs.toArray[i]! ≤ zs.toArray[j]! := by
  rw [getElem!_pos zs.toArray i (by simp; omega), getElem!_pos zs.toArray j (by simpa using hj)]
  simp only [List.getElem_toArray]
  rcases Nat.lt_or_ge i j with h1 | h1
  · exact (List.pairwise_iff_getElem.1 h) i j (by omega) hj h1
  · have : i = j := by omega
    subst this
    exact Int.le_refl _
theorem cpt_inc (zs : List Int) (h : zs.Pairwise (· ≤ ·)) : (compact zs).Pairwise (· < ·) := by
  unfold compact compactUpTo
  rw [List.pairwise_map]
  rw [List.pairwise_filter]
  have hr : (List.range zs.length).Pairwise (fun i j => i < j ∧ j < zs.length) := by
    rw [List.pairwise_iff_getElem]
    intro i j hi hj hij
    simp only [List.getElem_range]
    simp only [List.length_range] at hj
    exact ⟨hij, hj⟩
  refine hr.imp ?_
  intro i j ⟨hij, hj⟩ _ hk
  simp only [keeps, decide_eq_true_eq] at hk
  have hne : zs.toArray[j]! ≠ zs.toArray[j - 1]! := by
    rcases hk with hk | hk
    · omega
    · exact hk
  have h1 := srt_le zs h i (j - 1) (by omega) (by omega)
  have h2 := srt_le zs h (j - 1) j (by omega) hj
  omega
theorem cpt_mem (zs : List Int) (z : Int) : z ∈ compact zs ↔ z ∈ zs := by
  constructor
  · intro h
    simp only [compact, compactUpTo, List.mem_map, List.mem_filter, List.mem_range] at h
    obtain ⟨k, ⟨hk, _⟩, rfl⟩ := h
    rw [getElem!_pos zs.toArray k (by simpa using hk)]
    simp
  · intro h
    obtain ⟨k, hk, rfl⟩ := List.getElem_of_mem h
    clear h
    have e : ∀ k (hk : k < zs.length), zs.toArray[k]! = zs[k] := fun k hk => by
      rw [getElem!_pos zs.toArray k (by simpa using hk)]; simp
    have : ∀ k (hk : k < zs.length), zs[k] ∈ compact zs := by
      intro k
      induction k with
      | zero =>
        intro hk
        simp only [compact, compactUpTo, List.mem_map, List.mem_filter, List.mem_range]
        exact ⟨0, ⟨hk, by simp [keeps]⟩, e 0 hk⟩
      | succ k ih =>
        intro hk
        by_cases hq : zs.toArray[k + 1]! = zs.toArray[k]!
        · have := ih (by omega)
          rw [e _ hk, e k (by omega)] at hq
          rw [hq]; exact this
        · simp only [compact, compactUpTo, List.mem_map, List.mem_filter, List.mem_range]
          exact ⟨k + 1, ⟨hk, by simp only [keeps, decide_eq_true_eq]; right; simpa using hq⟩, e _ hk⟩
    exact this k hk
theorem inc_ext : ∀ (xs ys : List Int), xs.Pairwise (· < ·) → ys.Pairwise (· < ·) → (∀ z, z ∈ xs ↔ z ∈ ys) → xs = ys
  | [], ys, _, _, h => by
    cases ys with
    | nil => rfl
    | cons y t => exact absurd ((h y).2 (by simp)) (by simp)
  | x :: s, [], _, _, h => absurd ((h x).1 (by simp)) (by simp)
  | x :: s, y :: t, hx, hy, h => by
    obtain ⟨hx1, hx2⟩ := List.pairwise_cons.1 hx
    obtain ⟨hy1, hy2⟩ := List.pairwise_cons.1 hy
    have e : x = y := by
      rcases List.mem_cons.1 ((h x).1 (by simp)) with e | e
      · exact e
      · rcases List.mem_cons.1 ((h y).2 (by simp)) with e' | e'
        · exact e'.symm
        · have := hx1 y e'; have := hy1 x e; omega
    subst e
    congr 1
    refine inc_ext s t hx2 hy2 fun z => ?_
    constructor
    · intro hz
      rcases List.mem_cons.1 ((h z).1 (by simp [hz])) with e | e
      · have := hx1 z hz; omega
      · exact e
    · intro hz
      rcases List.mem_cons.1 ((h z).2 (by simp [hz])) with e | e
      · have := hy1 z hz; omega
      · exact e
/-- A row sorted, and each number of it once. -/
def rsn (zs : List Int) : List Int := compact (zs.mergeSort fun x y => decide (x ≤ y))
theorem sort_le (zs : List Int) : (zs.mergeSort fun x y => decide (x ≤ y)).Pairwise (· ≤ ·) := by
  have := List.pairwise_mergeSort (le := fun (x y : Int) => decide (x ≤ y)) (fun a b c => by simp; omega) (fun a b => by simp; omega) zs
  simpa using this
theorem rsn_inc (zs : List Int) : (rsn zs).Pairwise (· < ·) := cpt_inc _ (sort_le zs)
theorem rsn_mem (zs : List Int) (z : Int) : z ∈ rsn zs ↔ z ∈ zs := by
  rw [rsn, cpt_mem]; exact List.mem_mergeSort
theorem rsn_srcs (ls : List Lm) : rsn (ls.map Lm.y) = srcs ls := by
  refine inc_ext _ _ (rsn_inc _) (srcs_inc _) fun z => ?_
  rw [rsn_mem, srcs_mem]
  simp
end Go.Proofs.YtpedbdicjgdgkaaGreat

/- A row of the call's own, sorted and each number of it once. -/
namespace Go.Proofs.YtpedbdicjgdgkaaGreat
open Go Go.RowKit Go.Lib Go.Sort Go.Proofs

theorem cpt_len (zs : List Int) : (compact zs).length ≤ zs.length := by
  unfold compact compactUpTo
  rw [List.length_map]
  exact Nat.le_trans (List.length_filter_le _ _) (by simp)
/-- What the library's sort does with a row. -/
def SortIs : Prop := ∀ (blk off cap : Nat) (zs : List Int) (w : World), Holds (Value.int .i64) w blk off zs.toArray → blk < w.heap.size → zs.length < 4611686018427387904 →
  Calls Tryz.prog 105 #[.slice (some ⟨blk, off, none⟩) zs.length cap] w fun e w' => e = .returned (.tuple #[]) ∧ ∃ n os, w' = grow (putRow (Value.int .i64) (Sort.ahead w n) blk off (zs.mergeSort fun x y => decide (x ≤ y)).toArray) os
def SortNo : Prop := ∀ (p : Option Addr) (cap : Nat) (w : World), Calls Tryz.prog 105 #[.slice p 0 cap] w fun e w' => e = .returned (.tuple #[]) ∧ w' = w
/-- What the library's Compact does with a row. -/
def CptIs : Prop := ∀ (blk off cap : Nat) (zs : List Int) (w : World), Holds (Value.int .i64) w blk off zs.toArray → zs.length ≤ 9223372036854775807 → zs.length ≤ cap →
  Calls Tryz.prog 106 #[.slice (some ⟨blk, off, none⟩) zs.length cap] w fun e w' => e = .returned (.slice (some ⟨blk, off, none⟩) (compact zs).length cap) ∧ ∃ q, w' = putRow (Value.int .i64) (Sort.ahead w q) blk off (compact zs ++ List.replicate (zs.length - (compact zs).length) 0).toArray
def CptNo : Prop := ∀ (a : Option Addr) (cap : Nat) (w : World), Calls Tryz.prog 106 #[.slice a 0 cap] w fun e w' => e = .returned (.slice a 0 cap) ∧ w' = w

set_option maxRecDepth 100000 in
set_option maxHeartbeats 4000000 in
theorem rising_of (S : SortIs) (S0 : SortNo) (C : CptIs) (C0 : CptNo) (B : Nat) (v : Value) (zs : List Int) (W : World) (h : OwI B W v zs) (hB : B ≤ W.heap.size) (hbig : zs.length * 8 ≤ 140737488355328) :
    Calls Tryz.prog 65 #[v] W fun e w' => ∃ v', e = .returned v' ∧ OwI B w' v' (rsn zs) ∧ Below B W w' := by
  have h0 := h
  rcases h.2 with ⟨rfl, hn⟩ | ⟨g, cap, cur, rfl, hb, hg, hc, hm, hs, ht⟩
  · have hz : zs = [] := List.length_eq_zero_iff.1 hn
    subst hz
    clear h h0 hbig hn
    have HS := hide S0; have HC := hide C0; clear S C S0 C0
    go_enter Tryz.func65, Tryz.ntmps65
    go_wp2_with (first
      | (go_at_call 105; refine (HS.out _ _ _).mono ?_; rintro e w' ⟨rfl, rfl⟩)
      | (go_at_call 106; refine (HC.out _ _ _).mono ?_; rintro e w' ⟨rfl, rfl⟩))
    go_ret
    have e0 : rsn [] = [] := by simp [rsn, compact, compactUpTo]
    rw [e0]
    exact ⟨_, rfl, (show OwI B _ (.slice none 0 0) [] from World.ownsRow_nil _ _ _ _), Below.refl _ _⟩
  · rw [Nat.mul_one] at ht
    have hgs : g < W.heap.size := (Array.getElem?_eq_some_iff.1 hg).1
    obtain ⟨ts, hts⟩ : ∃ ts, (zs.mergeSort fun x y => decide (x ≤ y)) = ts := ⟨_, rfl⟩
    have hl : ts.length = zs.length := by rw [← hts]; exact List.length_mergeSort _
    have hr : rsn zs = compact ts := by rw [← hts]; rfl
    have hH := holds_of_blockI hg ht
    have HS := hide (S g 0 cap zs W hH hgs (by omega))
    rw [hts] at HS
    have hle := cpt_len ts
    have hcap := hc
    have H1 : Hid (∀ n os, ∀ w1, w1 = grow (putRow (Value.int .i64) (Sort.ahead W n) g 0 ts.toArray) os → (Calls Tryz.prog 106 #[.slice (some ⟨g, 0, none⟩) zs.length cap] w1 fun e w' => ∃ v', e = .returned v' ∧ OwI B w' v' (rsn zs) ∧ Below B W w')) := by
      refine hide ?_
      intro n os w1 hw1
      have hb1 : Below B W w1 := by rw [hw1]; exact grown_bel h0 hB (grownBy_sortedI (w := W) ts.toArray)
      have ho1 : w1.ownsRow B 3 1 (.slice (some ⟨g, 0, none⟩) zs.length cap) zs.length (ts.map (Value.int .i64)) := by
        rw [hw1]; exact ownsRow_sortedI (ss := zs) hl hb hg hc hm hs
      have hg1 := heap_sortedI (n := n) (os := os) ts.toArray hg
      rw [← hw1] at hg1
      have hH1 : Holds (Value.int .i64) w1 g 0 ts.toArray := holds_of_blockI hg1 (take_putCellsI cur ts (by omega))
      have := C g 0 cap ts w1 hH1 (by omega) (by omega)
      rw [hl] at this
      refine this.mono ?_
      rintro e w2 ⟨rfl, q, rfl⟩
      refine ⟨_, rfl, ?_, below_putRow hb1 hb⟩
      rw [hr]
      have h9 := ownsRow_putRow (q := q) (ys := compact ts ++ List.replicate (zs.length - (compact ts).length) 0) (k := (compact ts).length) ho1 (by rw [List.length_append, List.length_replicate]; omega) (by omega)
      rw [List.take_left] at h9
      exact h9
    clear h h0 hH hg ht hs hm hb hbig hl hr hle hts S S0 C C0 hcap hc hgs hB
    go_enter Tryz.func65, Tryz.ntmps65
    go_wp2_with (first
      | (go_at_call 105; go_loud (refine (HS.out).mono ?_; rintro e w1 ⟨rfl, n1, os1, hw1⟩; have H2 := hide (H1.out n1 os1 w1 hw1); clear hw1))
      | (go_at_call 106; go_loud (refine (H2.out).mono ?_; rintro e w' ⟨v', rfl, ho, hb⟩)))
    go_ret
    exact ⟨_, rfl, ho, hb⟩
end Go.Proofs.YtpedbdicjgdgkaaGreat

/- The library's functions over rows of numbers, at this seat's program. -/
namespace Go.Proofs.YtpedbdicjgdgkaaGreat
open Go.Shelf Go.Proofs
def lays189_ren : Go.Shelf.Ren := ⟨fun | 189 => 105 | 125 => 129 | 257 => 128 | 128 => 148 | 129 => 149 | 294 => 140 | 295 => 141 | 296 => 142 | 297 => 143 | 298 => 144 | 299 => 145 | 216 => 130 | 300 => 146 | 301 => 147 | 328 => 155 | 329 => 156 | 330 => 157 | 331 => 158 | 332 => 159 | 215 => 150 | 343 => 163 | n => n, fun | 28 => 27 | 3 => 3 | 46 => 129 | 0 => 0 | 51 => 154 | 53 => 156 | 4 => 4 | 183 => 148 | 182 => 147 | 131 => 113 | 5 => 5 | 9 => 9 | 218 => 163 | 222 => 167 | 228 => 177 | 229 => 89 | n => n, fun | n => n⟩
theorem lays189 : Go.Proofs.Lays.n189 Tryz.prog lays189_ren := {
  mixed := by kernel_rfl
  f125 := Tryz.func129.trans (congrArg some (by kernel_rfl))
  f128 := Tryz.func148.trans (congrArg some (by kernel_rfl))
  f129 := Tryz.func149.trans (congrArg some (by kernel_rfl))
  f189 := Tryz.func105.trans (congrArg some (by kernel_rfl))
  f215 := Tryz.func150.trans (congrArg some (by kernel_rfl))
  f216 := Tryz.func130.trans (congrArg some (by kernel_rfl))
  f257 := Tryz.func128.trans (congrArg some (by kernel_rfl))
  f294 := Tryz.func140.trans (congrArg some (by kernel_rfl))
  f295 := Tryz.func141.trans (congrArg some (by kernel_rfl))
  f296 := Tryz.func142.trans (congrArg some (by kernel_rfl))
  f297 := Tryz.func143.trans (congrArg some (by kernel_rfl))
  f298 := Tryz.func144.trans (congrArg some (by kernel_rfl))
  f299 := Tryz.func145.trans (congrArg some (by kernel_rfl))
  f300 := Tryz.func146.trans (congrArg some (by kernel_rfl))
  f301 := Tryz.func147.trans (congrArg some (by kernel_rfl))
  f328 := Tryz.func155.trans (congrArg some (by kernel_rfl))
  f329 := Tryz.func156.trans (congrArg some (by kernel_rfl))
  f330 := Tryz.func157.trans (congrArg some (by kernel_rfl))
  f331 := Tryz.func158.trans (congrArg some (by kernel_rfl))
  f332 := Tryz.func159.trans (congrArg some (by kernel_rfl))
  f343 := Tryz.func163.trans (congrArg some (by kernel_rfl))
  t0 := Tryz.underlying0
  a0 := Tryz.isAgg0
  z0 := Tryz.sizeOf0
  v0 := Tryz.zeroValue0
  t3 := Tryz.underlying3
  a3 := Tryz.isAgg3
  z3 := Tryz.sizeOf3
  v3 := Tryz.zeroValue3
  t4 := Tryz.underlying4
  a4 := Tryz.isAgg4
  z4 := Tryz.sizeOf4
  v4 := Tryz.zeroValue4
  t5 := Tryz.underlying5
  a5 := Tryz.isAgg5
  z5 := Tryz.sizeOf5
  v5 := Tryz.zeroValue5
  t9 := Tryz.underlying9
  a9 := Tryz.isAgg9
  z9 := Tryz.sizeOf9
  v9 := Tryz.zeroValue9
  t28 := Tryz.underlying27
  a28 := Tryz.isAgg27
  z28 := Tryz.sizeOf27
  v28 := Tryz.zeroValue27
  t46 := Tryz.underlying129
  a46 := Tryz.isAgg129
  z46 := Tryz.sizeOf129
  v46 := Tryz.zeroValue129
  t51 := Tryz.underlying154
  a51 := Tryz.isAgg154
  z51 := Tryz.sizeOf154
  v51 := Tryz.zeroValue154
  t53 := Tryz.underlying156
  a53 := Tryz.isAgg156
  z53 := Tryz.sizeOf156
  v53 := Tryz.zeroValue156
  t131 := Tryz.underlying113
  a131 := Tryz.isAgg113
  z131 := Tryz.sizeOf113
  v131 := Tryz.zeroValue113
  t182 := Tryz.underlying147
  a182 := Tryz.isAgg147
  z182 := Tryz.sizeOf147
  v182 := Tryz.zeroValue147
  t183 := Tryz.underlying148
  a183 := Tryz.isAgg148
  z183 := Tryz.sizeOf148
  v183 := Tryz.zeroValue148
  t218 := Tryz.underlying163
  a218 := Tryz.isAgg163
  z218 := Tryz.sizeOf163
  v218 := Tryz.zeroValue163
  t222 := Tryz.underlying167
  a222 := Tryz.isAgg167
  z222 := Tryz.sizeOf167
  v222 := Tryz.zeroValue167
  t228 := Tryz.underlying177
  a228 := Tryz.isAgg177
  z228 := Tryz.sizeOf177
  v228 := Tryz.zeroValue177
  t229 := Tryz.underlying89
  a229 := Tryz.isAgg89
  z229 := Tryz.sizeOf89
  v229 := Tryz.zeroValue89 }
def laysNm220_ren : Go.Shelf.Ren := ⟨fun | 20 => 106 | n => n, fun | 22 => 27 | 3 => 3 | 4 => 4 | 0 => 0 | n => n, fun | n => n⟩
theorem laysNm220 : Go.Proofs.Lays2.n20 Tryz.prog laysNm220_ren := {
  mixed := by kernel_rfl
  f20 := Tryz.func106.trans (congrArg some (by kernel_rfl))
  t0 := Tryz.underlying0
  a0 := Tryz.isAgg0
  z0 := Tryz.sizeOf0
  v0 := Tryz.zeroValue0
  t3 := Tryz.underlying3
  a3 := Tryz.isAgg3
  z3 := Tryz.sizeOf3
  v3 := Tryz.zeroValue3
  t4 := Tryz.underlying4
  a4 := Tryz.isAgg4
  z4 := Tryz.sizeOf4
  v4 := Tryz.zeroValue4
  t22 := Tryz.underlying27
  a22 := Tryz.isAgg27
  z22 := Tryz.sizeOf27
  v22 := Tryz.zeroValue27
  i3 := by kernel_rfl }
def laysNm215_ren : Go.Shelf.Ren := ⟨fun | 15 => 107 | n => n, fun | 22 => 27 | 3 => 3 | 4 => 4 | n => n, fun | n => n⟩
theorem laysNm215 : Go.Proofs.Lays2.n15 Tryz.prog laysNm215_ren := {
  mixed := by kernel_rfl
  f15 := Tryz.func107.trans (congrArg some (by kernel_rfl))
  t3 := Tryz.underlying3
  a3 := Tryz.isAgg3
  z3 := Tryz.sizeOf3
  v3 := Tryz.zeroValue3
  t4 := Tryz.underlying4
  a4 := Tryz.isAgg4
  z4 := Tryz.sizeOf4
  v4 := Tryz.zeroValue4
  t22 := Tryz.underlying27
  a22 := Tryz.isAgg27
  z22 := Tryz.sizeOf27
  v22 := Tryz.zeroValue27
  i3 := by kernel_rfl }
def laysNm225_ren : Go.Shelf.Ren := ⟨fun | 25 => 109 | 31 => 130 | 32 => 131 | 37 => 150 | n => n, fun | 22 => 27 | 3 => 3 | 4 => 4 | 40 => 129 | 0 => 0 | n => n, fun | n => n⟩
theorem laysNm225 : Go.Proofs.Lays2.n25 Tryz.prog laysNm225_ren := {
  mixed := by kernel_rfl
  f25 := Tryz.func109.trans (congrArg some (by kernel_rfl))
  f31 := Tryz.func130.trans (congrArg some (by kernel_rfl))
  f32 := Tryz.func131.trans (congrArg some (by kernel_rfl))
  f37 := Tryz.func150.trans (congrArg some (by kernel_rfl))
  t0 := Tryz.underlying0
  a0 := Tryz.isAgg0
  z0 := Tryz.sizeOf0
  v0 := Tryz.zeroValue0
  t3 := Tryz.underlying3
  a3 := Tryz.isAgg3
  z3 := Tryz.sizeOf3
  v3 := Tryz.zeroValue3
  t4 := Tryz.underlying4
  a4 := Tryz.isAgg4
  z4 := Tryz.sizeOf4
  v4 := Tryz.zeroValue4
  t22 := Tryz.underlying27
  a22 := Tryz.isAgg27
  z22 := Tryz.sizeOf27
  v22 := Tryz.zeroValue27
  t40 := Tryz.underlying129
  a40 := Tryz.isAgg129
  z40 := Tryz.sizeOf129
  v40 := Tryz.zeroValue129 }
open Go Go.RowKit Go.Lib Go.Sort
theorem sort_is : SortIs := fun blk off cap zs w h1 h2 h3 => Any.slices_Sort_int lays189 blk off cap zs w h1 h2 h3
theorem sort_no : SortNo := fun p cap w => Any.slices_Sort_int_none lays189 p cap w
theorem cpt_is : CptIs := fun blk off cap zs w h1 h2 h3 => Any.slices_Compact_int laysNm220 blk off cap zs w h1 h2 h3
theorem cpt_no : CptNo := fun a cap w => Any.slices_Compact_int_empty laysNm220 a cap w
theorem rising_w (B : Nat) (v : Value) (zs : List Int) (W : World) (h : OwI B W v zs) (hB : B ≤ W.heap.size) (hbig : zs.length * 8 ≤ 140737488355328) :
    Calls Tryz.prog 65 #[v] W fun e w' => ∃ v', e = .returned v' ∧ OwI B w' v' (rsn zs) ∧ Below B W w' := rising_of sort_is sort_no cpt_is cpt_no B v zs W h hB hbig
end Go.Proofs.YtpedbdicjgdgkaaGreat

/- A system without some sources: the reference's side. -/
namespace Go.Proofs.YtpedbdicjgdgkaaGreat
open Go Go.RowKit

set_option maxRecDepth 100000 in
set_option maxHeartbeats 4000000 in
theorem rwithout_w (many : Int) (a : Option Addr) (n cap : Nat) (ls : List Lm) (ab : Option Addr) (nb cb : Nat) (ys : List Int) (w : World) (h : IsS w (.slice a n cap) ls) (hy : IsL w (.slice ab nb cb) ys) (hbig : ls.length * 32 ≤ 140737488355328) :
    Calls Tryz.prog 22 #[.agg #[.int .i64 many, .slice a n cap], .slice ab nb cb] w fun e w' => ∃ v, e = .returned (.agg #[.int .i64 many, v]) ∧ Nice v ∧ IsS w' v (wo ys ls) ∧ Below w.heap.size w w' := by
  obtain ⟨a', cap', hv, h1, h2, h3, h4⟩ := h
  cases hv
  unfold maxLen at h2
  have H3 := hide h3; have HB := hide hbig; have HY := hide hy; clear h3 hbig hy
  go_enter Tryz.func22, Tryz.ntmps22
  go_wp2
  obtain ⟨W0, hW0⟩ : ∃ W, ((w.alloc (.cells #[.int .i64 many, .slice a ls.length cap] 24)).alloc (.cells #[.int .i64 0, .slice none 0 0] 24)).alloc (.cells #[.int .i64 many, .slice none 0 0] 24) = W := ⟨_, rfl⟩
  have hz0 : W0.heap.size = w.heap.size + 1 + 1 + 1 := by rw [← hW0]; simp
  have hB0 : Below w.heap.size w W0 := by rw [← hW0]; exact (by repeat (first | exact Below.refl _ _ | assumption | refine Below.alloc ?_ (by first | omega | (simp; omega) | simp) _ | refine Below.setCell ?_ (by first | omega | (simp; omega) | simp) _ | refine below_drewN ?_ _ | refine Below.drew ?_ | refine back ?_ (by assumption)))
  have s0 : W0.cell? ⟨w.heap.size + 1, 0, none⟩ = some (.int .i64 0) := by rw [← hW0]; exact (cell_old (by simp)).trans (cell_new (by simp))
  have s1 : W0.cell? ⟨w.heap.size + 1, 1, none⟩ = some (.slice none 0 0) := by rw [← hW0]; exact (cell_old (by simp)).trans (cell_new (by simp))
  have s2 : W0.frozen? ⟨w.heap.size + 1, 0, none⟩ = false := by rw [← hW0]; exact (frozen_old (by simp)).trans (frozen_new (by simp))
  have s3 : W0.frozen? ⟨w.heap.size + 1, 1, none⟩ = false := by rw [← hW0]; exact (frozen_old (by simp)).trans (frozen_new (by simp))
  have t0 : W0.cell? ⟨w.heap.size + 1 + 1, 0, none⟩ = some (.int .i64 many) := by rw [← hW0]; exact cell_new (by simp)
  have t1 : W0.cell? ⟨w.heap.size + 1 + 1, 1, none⟩ = some (.slice none 0 0) := by rw [← hW0]; exact cell_new (by simp)
  have t2 : W0.frozen? ⟨w.heap.size + 1 + 1, 1, none⟩ = false := by rw [← hW0]; exact frozen_new (by simp)
  rw [hW0]
  have HZ0 := hide hz0; have HB0 := hide hB0; have HS := hide (And.intro s0 (And.intro s1 (And.intro s2 s3)))
  clear hW0 hz0 hB0 s0 s1 s2 s3
  go_loopw [14] (fun i wr => ∃ (k : Nat) (o : Value), i = .int .i64 k ∧ k ≤ ls.length ∧ Hid (OwL (w.heap.size + 1 + 1 + 1) wr o (wo ys (ls.take k))) ∧ Hid (Below (w.heap.size + 1 + 1) W0 wr) ∧ w.heap.size + 1 + 1 + 1 ≤ wr.heap.size ∧ wr.cell? ⟨w.heap.size + 1 + 1, 0, none⟩ = some (.int .i64 many) ∧ wr.cell? ⟨w.heap.size + 1 + 1, 1, none⟩ = some o ∧ wr.frozen? ⟨w.heap.size + 1 + 1, 1, none⟩ = false) (fun i _ => ls.length - (intOf i).toNat)
  case atStart => exact ⟨0, .slice none 0 0, rfl, Nat.zero_le _, hide (OwL.nil _ _), hide (Below.refl _ _), by rw [HZ0.out]; exact Nat.le_refl _, t0, t1, t2⟩
  case round =>
    obtain ⟨k, o, rfl, hk, ho, hb0, hlw, hc0, hc1, hfz⟩ := hrel
    have hbw : Below w.heap.size w wr := HB0.out.trans (hb0.out.mono (by omega))
    by_cases hlt : k < ls.length
    · obtain ⟨b, off, rfl, hbl, hc⟩ := h4 (by intro h; subst h; simp at hlt)
      obtain ⟨l, hl⟩ : ∃ l, lmAt ls k = l := ⟨_, rfl⟩
      have hck := (hc k hlt).below hbw hbl
      rw [hl] at hck
      obtain ⟨d1, d2, d3, d4⟩ := hck
      have HT := hide (wo_take ys ls k hlt l hl)
      clear hl hc
      have hbw' : b < wr.heap.size := by omega
      have hhas := fun X : World => fun hX : Below wr.heap.size wr X => hide (has_w ab nb cb ys l.y X ((HY.out.below hbw).below hX))
      by_cases hin : l.y ∈ ys
      · have hd : decide (l.y ∈ ys) = true := by simpa using hin
        have HTT : Hid (wo ys (ls.take (k + 1)) = wo ys (ls.take k)) := by show _ = _; rw [HT.out, if_pos hin, List.append_nil]
        rw [hd] at hhas
        clear hd HT hin
        go_wp2_with (go_at_call 61; refine (hhas _ (by repeat (first | exact Below.refl _ _ | assumption | refine Below.alloc ?_ (by first | omega | (simp; omega) | simp) _ | refine Below.setCell ?_ (by first | omega | (simp; omega) | simp) _ | refine below_drewN ?_ _ | refine Below.drew ?_ | refine back ?_ (by assumption)))).out.mono ?_; rintro e w2 ⟨rfl, rfl⟩)
        have hB2 : Below (w.heap.size + 1 + 1) W0 (wr.alloc (.cells #[.int .i64 l.a, .int .i64 l.b, .int .i64 l.m, .int .i64 l.y] 26)) := hb0.out.alloc (by omega) _
        exact ⟨⟨k + 1, o, by go_num, by omega, by rw [HTT.out]; exact World.ownsRow.alloc ho.out _, hide hB2, by simp; omega, (cell_old (by show w.heap.size + 1 + 1 < _; omega)).trans hc0, (cell_old (by show w.heap.size + 1 + 1 < _; omega)).trans hc1, (frozen_old (by show w.heap.size + 1 + 1 < _; omega)).trans hfz⟩, by simp [intOf]; omega⟩
      · have hd : decide (l.y ∈ ys) = false := by simpa using hin
        have HTT : Hid (wo ys (ls.take (k + 1)) = wo ys (ls.take k) ++ [l]) := by show _ = _; rw [HT.out, if_neg hin]
        rw [hd] at hhas
        clear hd HT hin
        obtain ⟨L1, hL1⟩ : ∃ o, Obj.cells #[.int .i64 l.a, .int .i64 l.b, .int .i64 l.m, .int .i64 l.y] 26 = o := ⟨_, rfl⟩
        have HOW := hide (show OwL (w.heap.size + 1 + 1 + 1) ((wr.alloc (.cells #[.int .i64 l.a, .int .i64 l.b, .int .i64 l.m, .int .i64 l.y] 26)).alloc (.cells #[.int .i64 l.a, .int .i64 l.b, .int .i64 l.m, .int .i64 l.y] 26)) o (wo ys (ls.take k)) from World.ownsRow.alloc (World.ownsRow.alloc ho.out _) _)
        have hzz : ((wr.alloc (.cells #[.int .i64 l.a, .int .i64 l.b, .int .i64 l.m, .int .i64 l.y] 26)).alloc (.cells #[.int .i64 l.a, .int .i64 l.b, .int .i64 l.m, .int .i64 l.y] 26)).heap.size = wr.heap.size + 1 + 1 := by simp
        have HZZ := hide hzz
        have hBB : Below (w.heap.size + 1 + 1) W0 ((wr.alloc (.cells #[.int .i64 l.a, .int .i64 l.b, .int .i64 l.m, .int .i64 l.y] 26)).alloc (.cells #[.int .i64 l.a, .int .i64 l.b, .int .i64 l.m, .int .i64 l.y] 26)) := (hb0.out.alloc (by omega) _).alloc (by simp; omega) _
        have HBB := hide hBB
        have HC := hide (show ∀ i v, wr.cell? ⟨w.heap.size + 1 + 1, i, none⟩ = some v → ((wr.alloc (.cells #[.int .i64 l.a, .int .i64 l.b, .int .i64 l.m, .int .i64 l.y] 26)).alloc (.cells #[.int .i64 l.a, .int .i64 l.b, .int .i64 l.m, .int .i64 l.y] 26)).cell? ⟨w.heap.size + 1 + 1, i, none⟩ = some v from fun i v h => (cell_old (by show w.heap.size + 1 + 1 < _; simp; omega)).trans ((cell_old (by show w.heap.size + 1 + 1 < _; omega)).trans h))
        have HF := hide (show ((wr.alloc (.cells #[.int .i64 l.a, .int .i64 l.b, .int .i64 l.m, .int .i64 l.y] 26)).alloc (.cells #[.int .i64 l.a, .int .i64 l.b, .int .i64 l.m, .int .i64 l.y] 26)).frozen? ⟨w.heap.size + 1 + 1, 1, none⟩ = false from (frozen_old (by show w.heap.size + 1 + 1 < _; simp; omega)).trans ((frozen_old (by show w.heap.size + 1 + 1 < _; omega)).trans hfz))
        have HLL := hide (show (wo ys (ls.take k)).length ≤ k by have := wo_len ys (ls.take k); rw [List.length_take] at this; omega)
        clear ho hzz hBB L1 hL1
        have p1 : w.heap.size + 1 + 1 < wr.heap.size := by omega
        go_wp2_with (first
          | (go_at_call 61; refine (hhas _ (by repeat (first | exact Below.refl _ _ | assumption | refine Below.alloc ?_ (by first | omega | (simp; omega) | simp) _ | refine Below.setCell ?_ (by first | omega | (simp; omega) | simp) _ | refine below_drewN ?_ _ | refine Below.drew ?_ | refine back ?_ (by assumption)))).out.mono ?_; rintro e w2 ⟨rfl, rfl⟩)
          | (at_builtin; refine catL_w rfl (.tmp 24) (.tmp 26) rfl (w.heap.size + 1 + 1 + 1) _ o (.slice (some ⟨wr.heap.size + 1, 0, none⟩) 1 1) (wo ys (ls.take k)) [l] HOW.out rfl rfl (by have := one_srcL (W := wr.alloc (.cells #[.int .i64 l.a, .int .i64 l.b, .int .i64 l.m, .int .i64 l.y] 26)) (l := l) rfl; simpa using this) (by have := HB.out; have := HLL.out; simp only [List.length_cons, List.length_nil]; omega) (by rw [HZZ.out]; omega) ?_; intro v2 W2 ho2 hg2 _ hf2; obtain ⟨g2, c2, rfl⟩ := hf2 (by simp); have hb2 := grown_bel HOW.out (by rw [HZZ.out]; omega) hg2; have r0 := (hb2.cell (p := ⟨w.heap.size + 1 + 1, 0, none⟩) (by show w.heap.size + 1 + 1 < _; omega)).trans (HC.out 0 _ hc0); have r1 := (hb2.cell (p := ⟨w.heap.size + 1 + 1, 1, none⟩) (by show w.heap.size + 1 + 1 < _; omega)).trans (HC.out 1 _ hc1); have rf := (hb2.frozen (p := ⟨w.heap.size + 1 + 1, 1, none⟩) (by show w.heap.size + 1 + 1 < _; omega)).trans HF.out; have zz2 := hb2.size; rw [HZZ.out] at zz2; have HO2 := hide ho2; have HB2 := hide (HBB.out.trans (hb2.mono (by omega))); clear hb2 ho2 hg2))
        refine ⟨⟨k + 1, _, by go_num, by omega, by rw [HTT.out]; exact ownsRow_set HO2.out (by show w.heap.size + 1 + 1 < _; omega), hide (HB2.out.setCell (by show w.heap.size + 1 + 1 ≤ w.heap.size + 1 + 1; omega) _), by simp [World.setCell]; omega, (World.cell?_setCell_other _ _ _ _ (by simp)).trans r0, by exact World.cell?_setCell_same _ _ _ r1, by simpa using rf⟩, by simp [intOf]; omega⟩
    · have hkl : k = ls.length := by omega
      have HE : Hid (ls.take k = ls) := by show _ = _; rw [hkl, List.take_length]
      clear hkl
      have hform : ∃ a2 n2 c2, o = .slice a2 n2 c2 := by
        rcases own_nice ho.out with e | ⟨g, off, n, c, e⟩
        · exact ⟨_, _, _, e⟩
        · exact ⟨_, _, _, e⟩
      obtain ⟨a2, n2, c2, rfl⟩ := hform
      obtain ⟨x0, x1, x2, x3⟩ := HS.out
      have y0 := (hb0.out.cell (p := ⟨w.heap.size + 1, 0, none⟩) (by show w.heap.size + 1 < _; omega)).trans x0
      have y1 := (hb0.out.cell (p := ⟨w.heap.size + 1, 1, none⟩) (by show w.heap.size + 1 < _; omega)).trans x1
      have y2 := (hb0.out.frozen (p := ⟨w.heap.size + 1, 0, none⟩) (by show w.heap.size + 1 < _; omega)).trans x2
      have y3 := (hb0.out.frozen (p := ⟨w.heap.size + 1, 1, none⟩) (by show w.heap.size + 1 < _; omega)).trans x3
      clear x0 x1 x2 x3
      have HOO := hide (show OwL (w.heap.size + 1 + 1 + 1) wr (.slice a2 n2 c2) (wo ys ls) by have := ho.out; rw [HE.out] at this; exact this)
      have HNI := hide (own_nice ho.out)
      clear ho
      go_wp2
      refine bodyPost_ret (v := .agg #[.int .i64 many, .slice a2 n2 c2]) (by simp [results, Tryz.results22, go_sem, hc0, hc1, y0, y1, y2, y3]) rfl ⟨_, rfl, HNI.out, ?_, ?_⟩
      · exact OwL.isS (ownsRow_set (ownsRow_set HOO.out (by show w.heap.size + 1 < _; omega)) (by show w.heap.size + 1 < _; omega)) (wo_FL H3.out)
      · exact (hbw.setCell (by show w.heap.size ≤ w.heap.size + 1; omega) _).setCell (by show w.heap.size ≤ w.heap.size + 1; omega) _
end Go.Proofs.YtpedbdicjgdgkaaGreat
