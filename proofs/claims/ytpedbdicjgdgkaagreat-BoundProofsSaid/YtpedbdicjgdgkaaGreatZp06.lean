import Derived.Test.YtpedbdicjgdgkaaGreatZp04
import Derived.Test.YtpedbdicjgdgkaaGreatZp05
import Derived.Deep.RegionWith
import Derived.Test.YtpedbdicjgdgkaaGreatZp02
import Derived.Outline
set_option linter.unusedVariables false
set_option linter.unusedSimpArgs false
/- Whether a proof is one: the reference's side. -/
namespace Go.Proofs.YtpedbdicjgdgkaaGreat
open Go Go.RowKit

theorem madeF {w : World} {n : Nat} : RowF (w.alloc (.cells (zrs n) 3)) w.heap.size n (fun _ => 0) :=
  ⟨fun j hj => by rw [cell_new rfl]; simp [zrs, hj], fun j => frozen_new rfl⟩
theorem ufl_upd (ls : List Lm) (us : List Us) (u : Us) (la lb : Nat) (t : Int) (ht : u.t = t) (ha : (lmI ls u.l).a = la) (hb : (lmI ls u.l).b = lb) (hne : la ≠ lb) (j : Nat) :
    upd (upd (fun q => ufl ls us (q : Nat)) lb (ufl ls us lb + t)) la (ufl ls us la - t) j = ufl ls (us ++ [u]) j := by
  unfold upd
  rw [ufl_snoc]
  unfold one
  rw [ha, hb, ht]
  by_cases h1 : j = la
  · subst h1
    have h2 : ¬ ((lb : Int) = (j : Int)) := by omega
    simp only [if_pos, if_neg h2]; omega
  · by_cases h3 : j = lb
    · subst h3
      have h4 : ¬ ((la : Int) = (j : Int)) := by omega
      simp only [if_pos, if_neg h1, if_neg h4]; omega
    · have h4 : ¬ ((la : Int) = (j : Int)) := by omega
      have h5 : ¬ ((lb : Int) = (j : Int)) := by omega
      simp only [if_neg h1, if_neg h3, if_neg h4, if_neg h5]; omega
theorem make_full (n : Nat) (h : n * 32 ≤ 140737488355328) (w : World) : (Instr.makeSlice 27 (.int .i64 (n : Int)) (.int .i64 (n : Int))).run Tryz.prog w = .ok (.slice (some ⟨w.heap.size, 0, none⟩) n n) (w.alloc (.cells (zrs n) 3)) := by
  obtain ⟨i0, hi, hz0, hz1, hz2⟩ := info_parts infoI
  have := run_make (P := Tryz.prog) w 27 3 i0 _ Tryz.underlying27 hi hz0 .i64 .i64 n n (by omega) (Int.le_refl _) (by rw [hz2]; omega) (by omega)
  rw [this]
  have e : madeCells (Value.cells (.int .i64 0)) ((n : Int).toNat * i0.size) = zrs n := by
    rw [hz1, Int.toNat_natCast, Nat.mul_one]
    apply Array.toList_inj.1
    show (madeCells #[Value.int .i64 0] n).toList = _
    rw [toList_madeCells_one]; simp [zrs]
  rw [e]; simp
theorem wrap_id {x : Int} (h1 : -9223372036854775808 ≤ x) (h2 : x ≤ 9223372036854775807) : IntKind.i64.wrap x = x := by
  simp only [IntKind.wrap, IntKind.signed, IntKind.bits]
  simp
  omega
theorem RowF.alloc {w : World} {g n : Nat} {f : Nat → Int} {o : Obj} (h : RowF w g n f) (hg : g < w.heap.size) : RowF (w.alloc o) g n f := h.keep ((Below.refl _ _).alloc (Nat.le_refl _) o) hg
theorem RowF.drew {w : World} {g n : Nat} {f : Nat → Int} (h : RowF w g n f) : RowF w.drew g n f := ⟨h.c, h.z⟩
theorem RowF.drewN {w : World} {g n q : Nat} {f : Nat → Int} (h : RowF w g n f) : RowF (w.drewN q) g n f := ⟨h.c, h.z⟩
/-- The limit of the use ahead. -/
def prevL (us : List Us) (k : Nat) : Int := if k = 0 then -1 else (usAt us (k - 1)).l

set_option maxRecDepth 100000 in
set_option maxHeartbeats 8000000 in
theorem rcheckProof_w (many : Int) (a : Option Addr) (n cap : Nat) (ls : List Lm) (aw : Option Addr) (nw cw : Nat) (ws : List Int) (B : Int) (au : Option Addr) (nu cu : Nat) (us : List Us) (w : World)
    (hS : IsS w (.slice a n cap) ls) (hW : IsL w (.slice aw nw cw) ws) (hU : IsU w (.slice au nu cu) us) :
    Calls Tryz.prog 42 #[.agg #[.int .i64 many, .slice a n cap], .slice aw nw cw, .agg #[.int .i64 B, .slice au nu cu]] w fun e w' => e = .returned (.int .i64 (ckP many ls ws B us)) ∧ Below w.heap.size w w' := by
  have HAK := fun (X : World) => fun (hX : Below w.heap.size w X) => hide (asked_w many a n cap ls aw nw cw ws X (hS.below hX) (hW.below hX))
  have HWF := hide hW.fb
  obtain ⟨a', cap', hv, s1, s2, s3, s4⟩ := hS
  cases hv
  obtain ⟨au', cu', hv, u1, u2, u3, u4⟩ := hU
  cases hv
  obtain ⟨aw', cw', hv, x1, x2, x3, x4⟩ := hW
  cases hv
  unfold maxLen at s2 u2 x2
  have HUF : Hid (∀ u ∈ us, FU u) := u3
  clear s3 u3 x3
  have KC := hide (show ∀ V, Below (w.heap.size + 1 + 1) ((w.alloc (.cells #[.int .i64 many, .slice a ls.length cap] 24)).alloc (.cells #[.int .i64 B, .slice au us.length cu] 54)) V → V.cell? ⟨w.heap.size, 0, none⟩ = some (.int .i64 many) ∧ V.cell? ⟨w.heap.size, 1, none⟩ = some (.slice a ls.length cap) ∧ V.cell? ⟨w.heap.size + 1, 0, none⟩ = some (.int .i64 B) ∧ V.cell? ⟨w.heap.size + 1, 1, none⟩ = some (.slice au us.length cu) from fun V hV => by
    have c : ∀ b o u, b < w.heap.size + 1 + 1 → ((w.alloc (.cells #[.int .i64 many, .slice a ls.length cap] 24)).alloc (.cells #[.int .i64 B, .slice au us.length cu] 54)).cell? ⟨b, o, none⟩ = some u → V.cell? ⟨b, o, none⟩ = some u := fun b o u hlt h => (hV.cell (p := ⟨b, o, none⟩) hlt).trans h
    exact ⟨c _ _ _ (by omega) ((cell_old (by simp)).trans (cell_new rfl)), c _ _ _ (by omega) ((cell_old (by simp)).trans (cell_new rfl)), c _ _ _ (by omega) (cell_new (by simp)), c _ _ _ (by omega) (cell_new (by simp))⟩)
  have HBS : Hid (Below w.heap.size w ((w.alloc (.cells #[.int .i64 many, .slice a ls.length cap] 24)).alloc (.cells #[.int .i64 B, .slice au us.length cu] 54))) := hide (((Below.refl _ w).alloc (Nat.le_refl _) _).alloc (by simp) _)
  by_cases hck : ckW many ls ws = 0
  rotate_left
  · have HR : Hid (ckP many ls ws B us = ckW many ls ws) := by show _ = _; unfold ckP; rw [if_neg hck]
    obtain ⟨r, hr⟩ : ∃ r, ckW many ls ws = r := ⟨_, rfl⟩
    rw [hr] at hck HR
    have HAK' := fun (X : World) => fun (hX : Below w.heap.size w X) => hide (show Calls Tryz.prog 85 #[.agg #[.int .i64 many, .slice a ls.length cap], .slice aw ws.length cw] X fun e w' => e = .returned (.int .i64 r) ∧ Below X.heap.size X w' from by have := (HAK X hX).out; rw [hr] at this; exact this)
    have h1 : (r != 0) = true := by simpa using hck
    clear hr hck HAK
    go_enter Tryz.func42, Tryz.ntmps42
    go_wp2_with (go_at_call 85; refine (HAK' _ HBS.out).out.mono ?_; rintro e w1 ⟨rfl, hb1⟩)
    go_ret
    exact ⟨ret_int HR.out.symm, by have := HBS.out; exact (by repeat (first | exact Below.refl _ _ | assumption | refine Below.alloc ?_ (by first | omega | (simp; omega) | simp) _ | refine Below.setCell ?_ (by first | omega | (simp; omega) | simp) _ | refine below_drewN ?_ _ | refine Below.drew ?_ | refine back ?_ (by assumption)))⟩
  obtain ⟨hcS, hwl, hwz⟩ := ckW_ok hck
  obtain ⟨hm0, hm1, hll, hlv⟩ := ckS_in hcS
  have HAK' := fun (X : World) => fun (hX : Below w.heap.size w X) => hide (show Calls Tryz.prog 85 #[.agg #[.int .i64 many, .slice a ls.length cap], .slice aw ws.length cw] X fun e w' => e = .returned (.int .i64 0) ∧ Below X.heap.size X w' from by have := (HAK X hX).out; rw [hck] at this; exact this)
  have HSZ := hide (szd_size ws _ hwz)
  have HLV : Hid (∀ l ∈ ls, ckL many l = 0) := hlv
  have HWL := hide hwl
  clear hcS hwz hlv HAK
  by_cases hul : (400 : Int) < us.length
  · have HR : Hid (ckP many ls ws B us = 24) := by show _ = _; unfold ckP; rw [if_pos hck, if_neg (fun h => by have := h.1; omega)]
    clear hck
    go_enter Tryz.func42, Tryz.ntmps42
    go_wp2_with (go_at_call 85; refine (HAK' _ HBS.out).out.mono ?_; rintro e w1 ⟨rfl, hb1⟩; have hz1 := hb1.size; simp at hz1; have hb1' := hb1.mono (B' := w.heap.size + 1 + 1) (by simp); obtain ⟨q0, q1, q2, q3⟩ := KC.out _ hb1')
    go_ret
    exact ⟨ret_int HR.out.symm, by have := HBS.out; exact (by repeat (first | exact Below.refl _ _ | assumption | refine Below.alloc ?_ (by first | omega | (simp; omega) | simp) _ | refine Below.setCell ?_ (by first | omega | (simp; omega) | simp) _ | refine below_drewN ?_ _ | refine Below.drew ?_ | refine back ?_ (by assumption)))⟩
  have HR : Hid (ckP many ls ws B us = if uok ls.length (-1) 0 us = true ∧ bnd ls us = B ∧ flows many ls ws us = true then 0 else 24) := by
    show _ = _; unfold ckP; rw [if_pos hck]
    have : us.length ≤ 400 := by omega
    simp only [this, true_and]
  clear hck
  have hmk := make_full ws.length (by omega)
  rw [hwl] at hmk
  go_enter Tryz.func42, Tryz.ntmps42
  go_wp2_with (go_at_call 85; refine (HAK' _ HBS.out).out.mono ?_; rintro e w1 ⟨rfl, hb1⟩; have hz1 := hb1.size; simp at hz1; have hb1' := hb1.mono (B' := w.heap.size + 1 + 1) (by simp); obtain ⟨q0, q1, q2, q3⟩ := KC.out _ hb1'; have hz2 : w.heap.size + 1 < w1.heap.size := (by omega); have hz3 : w.heap.size < w1.heap.size := (by omega))
  have hB2 : Below (w.heap.size + 1 + 1) w1 (w1.alloc (.cells (zrs ws.length) 3)) := (Below.refl _ w1).alloc (by omega) _
  have hrow0 : RowF (w1.alloc (.cells (zrs ws.length) 3)) w1.heap.size ws.length (fun q => ufl ls [] (q : Nat)) := madeF.cong (fun j _ => by simp [ufl])
  have HB0 := hide (HBS.out.trans (hb1'.mono (by omega)))
  have HB2 := hide hB2
  have HR0 := hide hrow0
  have HZ : Hid (w.heap.size + 1 + 1 ≤ w1.heap.size) := hide (by omega)
  clear hB2 hrow0 hb1 hb1' HAK' KC HBS hmk
  go_outline
  go_loopw [9, 10, 32] (fun al sm i wr => ∃ (k : Nat) (A S : Int), al = .int .i64 A ∧ sm = .int .i64 S ∧ i = .int .i64 k ∧ k ≤ us.length ∧ 0 ≤ A ∧ A ≤ 230400000000000 ∧ Hid (A = alls (us.take k) ∧ S = bnd ls (us.take k) ∧ uok ls.length (-1) 0 us = uok ls.length (prevL us k) A (us.drop k) ∧ (∀ u ∈ us.take k, 0 ≤ u.t ∧ 0 ≤ u.l ∧ u.l ≤ (ls.length : Int) - 1) ∧ -1 ≤ prevL us k) ∧ Hid (RowF wr w1.heap.size ws.length (fun q => ufl ls (us.take k) (q : Nat))) ∧ Hid (Below (w.heap.size + 1 + 1) w1 wr) ∧ w1.heap.size < wr.heap.size) (fun _ _ i _ => us.length - (intOf i).toNat)
  case atStart => exact ⟨0, 0, 0, rfl, rfl, rfl, Nat.zero_le _, by decide, by decide, hide ⟨by simp [alls], by simp [bnd], by simp [prevL], by simp, by simp [prevL]⟩, HR0, HB2, by simp⟩
  case round =>
    obtain ⟨k, A, S, rfl, rfl, rfl, hk, hA0, hA1, hinv, hrow, hbw, hgw⟩ := hrel
    have q0' := (hbw.out.cell (p := ⟨w.heap.size, 0, none⟩) (by show w.heap.size < _; omega)).trans q0
    have q1' := (hbw.out.cell (p := ⟨w.heap.size, 1, none⟩) (by show w.heap.size < _; omega)).trans q1
    have q2' := (hbw.out.cell (p := ⟨w.heap.size + 1, 0, none⟩) (by show w.heap.size + 1 < _; omega)).trans q2
    have q3' := (hbw.out.cell (p := ⟨w.heap.size + 1, 1, none⟩) (by show w.heap.size + 1 < _; omega)).trans q3
    have HBW : Hid (Below w.heap.size w wr) := hide (HB0.out.trans (hbw.out.mono (by omega)))
    have hz5 : w.heap.size < wr.heap.size := by omega
    have hz6 : w.heap.size + 1 < wr.heap.size := by omega
    clear q0 q1 q2 q3
    by_cases hlt : k < us.length
    · obtain ⟨b, off, rfl, hbl, hc⟩ := u4 (by intro h; subst h; simp at hlt)
      obtain ⟨u, hu⟩ : ∃ u, usAt us k = u := ⟨_, rfl⟩
      have hck := (hc k hlt).below HBW.out hbl
      rw [hu] at hck
      obtain ⟨d1, d2⟩ := hck
      have hfu : FU u := by rw [← hu]; exact usAt_FU HUF.out hlt
      have HD : Hid (us.drop k = u :: us.drop (k + 1) ∧ us.take (k + 1) = us.take k ++ [u] ∧ prevL us (k + 1) = u.l) := by rw [← hu]; exact ⟨us_drop us k hlt, us_take us k hlt, by simp [prevL]⟩
      have hbw' : b < wr.heap.size := by have := HBW.out.size; omega
      have hpr : (k = 0 ∧ prevL us k = -1) ∨ (0 < k ∧ wr.cell? ⟨b, off + (k - 1) * 2, none⟩ = some (.int .i64 (prevL us k)) ∧ FB (prevL us k)) := by
        rcases Nat.eq_zero_or_pos k with h | h
        · exact .inl ⟨h, by simp [prevL, h]⟩
        · right
          have h1 := ((hc (k - 1) (by omega)).below HBW.out hbl).1
          have h2 := usAt_FU HUF.out (i := k - 1) (by omega)
          have e : prevL us k = (usAt us (k - 1)).l := by unfold prevL; rw [if_neg (by omega)]
          rw [e]
          exact ⟨h, h1, h2.1⟩
      clear hu hc
      obtain ⟨x, t, rfl⟩ : ∃ x t : Int, u = ⟨x, t⟩ := ⟨u.l, u.t, rfl⟩
      simp only at d1 d2
      obtain ⟨⟨f1, f2⟩, f3, f4⟩ := hfu
      simp only at f1 f2 f3 f4
      obtain ⟨P, hP⟩ : ∃ P, prevL us k = P := ⟨_, rfl⟩
      rw [hP] at hinv hpr
      have hP1 : -1 ≤ P := hinv.out.2.2.2.2
      clear hP
      have hkl : (k : Int) < us.length := by omega
      have hw1 : IntKind.i64.wrap ((ls.length : Int) - 1) = (ls.length : Int) - 1 := wrap_id (by omega) (by omega)
      have hw2 : IntKind.i64.wrap ((k : Int) - 1) = (k : Int) - 1 := wrap_id (by omega) (by omega)
      cases e1 : inB 0 ((ls.length : Int) - 1) x
      · have HN : Hid (uok ls.length (-1) 0 us = false) := by
          show _ = _
          rw [hinv.out.2.2.1, HD.out.1, uok_no _ _ _ _ _ (by intro h; rw [inB_t ⟨by have := h.1; omega, h.2.1⟩] at e1; cases e1)]
        have hin := fun (X : World) (n : Nat) => hide (Calls.quiet_of_same ((rwithin_w e1 (X.drewN n)).mono fun _ _ h => ⟨h.1, h.2.symm⟩))
        have HRR : Hid (ckP many ls ws B us = 24) := by show _ = _; rw [HR.out, HN.out]; rfl
        clear e1 hinv HD hpr HR
        go_wp2
        go_quiet ((go_at_call 64; exact (hin _ _).out))
        go_wp2
        go_ret
        exact ⟨ret_int HRR.out.symm, by have := HBW.out; exact (by repeat (first | exact Below.refl _ _ | assumption | refine Below.alloc ?_ (by first | omega | (simp; omega) | simp) _ | refine Below.setCell ?_ (by first | omega | (simp; omega) | simp) _ | refine below_drewN ?_ _ | refine Below.drew ?_ | refine back ?_ (by assumption)))⟩
      have hk0' : True := trivial
      rcases hpr with ⟨h0, hPe⟩ | ⟨h0, hpc, hpf1, hpf2⟩
      · subst h0
        simp only [Nat.zero_mul, Nat.add_zero] at d1 d2
        have he1 := e1
        simp only [inB, decide_eq_true_eq] at he1
        have hord : P + 1 ≤ x := by omega
        cases e3 : inB 1 3600000000000 t
        · have HN : Hid (uok ls.length (-1) 0 us = false) := by
            show _ = _
            rw [hinv.out.2.2.1, HD.out.1, uok_no _ _ _ _ _ (by intro h; rw [inB_t ⟨h.2.2.1, h.2.2.2.1⟩] at e3; cases e3)]
          have hin := fun (X : World) (n : Nat) => hide (Calls.quiet_of_same ((rwithin_w e1 (X.drewN n)).mono fun _ _ h => ⟨h.1, h.2.symm⟩))
          have hin3 := fun (X : World) (n : Nat) => hide (Calls.quiet_of_same ((rwithin_w e3 (X.drewN n)).mono fun _ _ h => ⟨h.1, h.2.symm⟩))
          have HRR : Hid (ckP many ls ws B us = 24) := by show _ = _; rw [HR.out, HN.out]; rfl
          clear e1 e3 hinv HD HR
          go_wp2
          go_quiet ((go_at_call 64; (first | with_reducible exact (hin _ _).out | with_reducible exact (hin3 _ _).out)))
          go_wp2
          go_ret
          exact ⟨ret_int HRR.out.symm, by have := HBW.out; exact (by repeat (first | exact Below.refl _ _ | assumption | refine Below.alloc ?_ (by first | omega | (simp; omega) | simp) _ | refine Below.setCell ?_ (by first | omega | (simp; omega) | simp) _ | refine below_drewN ?_ _ | refine Below.drew ?_ | refine back ?_ (by assumption)))⟩
        have hin := fun (X : World) (n : Nat) => hide (Calls.quiet_of_same ((rwithin_w e1 (X.drewN n)).mono fun _ _ h => ⟨h.1, h.2.symm⟩))
        have hin3 := fun (X : World) (n : Nat) => hide (Calls.quiet_of_same ((rwithin_w e3 (X.drewN n)).mono fun _ _ h => ⟨h.1, h.2.symm⟩))
        simp only [inB, decide_eq_true_eq] at e1 e3
        by_cases e4 : A + t ≤ 230400000000000
        rotate_left
        · have HN : Hid (uok ls.length (-1) 0 us = false) := by
            show _ = _
            rw [hinv.out.2.2.1, HD.out.1, uok_no _ _ _ _ _ (by intro h; exact e4 h.2.2.2.2)]
          have HRR : Hid (ckP many ls ws B us = 24) := by show _ = _; rw [HR.out, HN.out]; rfl
          clear hinv HD HR
          go_wp2
          go_quiet ((go_at_call 64; (first | with_reducible exact (hin _ _).out | with_reducible exact (hin3 _ _).out)))
          go_wp2
          go_ret
          exact ⟨ret_int HRR.out.symm, by have := HBW.out; exact (by repeat (first | exact Below.refl _ _ | assumption | refine Below.alloc ?_ (by first | omega | (simp; omega) | simp) _ | refine Below.setCell ?_ (by first | omega | (simp; omega) | simp) _ | refine below_drewN ?_ _ | refine Below.drew ?_ | refine back ?_ (by assumption)))⟩
        obtain ⟨j, rfl⟩ : ∃ j : Nat, x = j := ⟨x.toNat, by omega⟩
        have hjl : j < ls.length := by omega
        obtain ⟨b2, off2, rfl, hbl2, hc2⟩ := s4 (by intro h; subst h; simp at hjl)
        obtain ⟨l, hl⟩ : ∃ l, lmAt ls j = l := ⟨_, rfl⟩
        have hck2 := (hc2 j hjl).below HBW.out hbl2
        have hlv := HLV.out (lmAt ls j) (by simp [lmAt, hjl])
        rw [hl] at hck2 hlv
        obtain ⟨m1, m2, m3, m4⟩ := hck2
        obtain ⟨_, _, v1, v2, v3, v4, v5, v6, _, _⟩ := ckL_in hlv
        have hlab : l.a ≠ l.b := by intro h; unfold ckL at hlv; rw [h] at hlv; simp at hlv
        obtain ⟨la, hla⟩ : ∃ q : Nat, l.a = q := ⟨l.a.toNat, by omega⟩
        obtain ⟨lb, hlb⟩ : ∃ q : Nat, l.b = q := ⟨l.b.toNat, by omega⟩
        obtain ⟨lm, hlm⟩ : ∃ q : Int, l.m = q := ⟨_, rfl⟩
        have HL : Hid (lmI ls j = l) := hl
        rw [hla] at m1; rw [hlb] at m2; rw [hlm] at m3
        have hne : la ≠ lb := by omega
        have hA1 : la < ws.length := by have := HWL.out; omega
        have hA2 : lb < ws.length := by have := HWL.out; omega
        have hlm1 : -20000 ≤ lm := by omega
        have hlm2 : lm ≤ 20000 := by omega
        have hbw2 : b2 < wr.heap.size := by have := HBW.out.size; omega
        clear hc2 hl v1 v2 v3 v4 v5 v6
        have hsm : ∀ q : Nat, -230400000000000 ≤ ufl ls (us.take 0) (q : Int) ∧ ufl ls (us.take 0) (q : Int) ≤ 230400000000000 := by
          intro q
          have h2 := ufl_le ls (us.take 0) (fun u hu => (hinv.out.2.2.2.1 u hu).1) q
          rw [← hinv.out.1] at h2
          omega
        have hya := hrow.out.c la hA1
        have hyb := hrow.out.c lb hA2
        have hza := hrow.out.z la
        have hzb := hrow.out.z lb
        have hba := hsm la
        have hbb := hsm lb
        clear hsm
        have hbS := bnd_le ls (us.take 0) (fun u hu => (hinv.out.2.2.2.1 u hu).1) (fun u hu => by
          have h1 := hinv.out.2.2.2.1 u hu
          have h2 := ckL_in (HLV.out _ (lmI_mem h1.2.1 h1.2.2))
          omega)
        rw [← hinv.out.1, ← hinv.out.2.1] at hbS
        obtain ⟨hbS1, hbS2⟩ := hbS
        have hx1 : t * lm ≤ t * 20000 := Int.mul_le_mul_of_nonneg_left hlm2 (by omega)
        have hx2 : t * (-20000) ≤ t * lm := Int.mul_le_mul_of_nonneg_left hlm1 (by omega)
        have HRS := hide (fun W : World => fun hW : RowF W w1.heap.size ws.length (upd (upd (fun q => ufl ls (us.take 0) (q : Nat)) lb (ufl ls (us.take 0) lb + t)) la (ufl ls (us.take 0) la - t)) => hW.cong (f' := fun q => ufl ls (us.take (0 + 1)) (q : Nat)) (fun q _ => by rw [HD.out.2.1]; exact ufl_upd ls _ _ la lb t rfl (by rw [show (Us.mk (j : Int) t).l = j from rfl, HL.out, hla]) (by rw [show (Us.mk (j : Int) t).l = j from rfl, HL.out, hlb]) hne q))
        have HRW := hide (fun W : World => fun hW : RowF W w1.heap.size ws.length (fun q => ufl ls (us.take 0) (q : Nat)) => ((hW.set lb (ufl ls (us.take 0) lb + t) hA2)).set la (ufl ls (us.take 0) la - t) hA1)
        obtain ⟨ya, hyA⟩ : ∃ q, ufl ls (us.take 0) (la : Int) = q := ⟨_, rfl⟩
        obtain ⟨yb, hyB⟩ : ∃ q, ufl ls (us.take 0) (lb : Int) = q := ⟨_, rfl⟩
        rw [hyA] at hya hba HRS HRW
        rw [hyB] at hyb hbb HRS HRW
        obtain ⟨ba1, ba2⟩ := hba
        obtain ⟨bb1, bb2⟩ := hbb
        obtain ⟨t1, t2⟩ := e3
        clear hyA hyB hla hlb
        have hne' : ¬ lb = la := fun h => hne h.symm
        have hkk : ¬ ((0 : Int)) + 1 = 0 := by omega
        go_wp2
        go_quiet ((go_at_call 64; (first | with_reducible exact (hin _ _).out | with_reducible exact (hin3 _ _).out)))
        go_wp2
        go_region
        go_wp2
        go_region
        go_wp2
        have hsz9 := hbw.out.size
        have hh0 := HZ.out
        refine ⟨⟨1, A + t, S + t * lm, by go_num, by go_num, by go_num, by omega, by omega, by omega, hide ⟨?_, ?_, ?_, ?_, ?_⟩, hide ?_, hide ?_, by simp; omega⟩, by simp [intOf]; omega⟩
        · rw [HD.out.2.1, alls_snoc, hinv.out.1]
        · rw [HD.out.2.1, bnd_snoc, hinv.out.2.1, show (Us.mk (j : Int) t).l = j from rfl, HL.out, hlm]
        · rw [hinv.out.2.2.1, HD.out.1, HD.out.2.2, uok_cons _ _ _ _ _ ⟨hord, e1.2, t1, t2, e4⟩]
        · intro u hu
          rw [HD.out.2.1] at hu
          rcases List.mem_append.1 hu with hu | hu
          · exact hinv.out.2.2.2.1 u hu
          · rw [List.mem_singleton.1 hu]; exact ⟨by show (0 : Int) ≤ t; omega, by show (0 : Int) ≤ (j : Int); omega, by show (j : Int) ≤ _; omega⟩
        · rw [HD.out.2.2]; show -1 ≤ (j : Int); omega
        · refine HRS.out _ ?_
          repeat (first | exact hrow.out | refine RowF.drew ?_ | refine RowF.drewN ?_ | refine RowF.alloc ?_ (by first | exact hgw | omega | (simp; omega)) | refine RowF.set ?_ la _ hA1 | refine RowF.set ?_ lb _ hA2)
        · repeat (first | exact hbw.out | refine Below.drew ?_ | refine below_drewN ?_ _ | refine Below.alloc ?_ (by first | omega | (simp; omega)) _ | refine Below.setCell ?_ (by first | exact hh0 | (simp; omega)) _)
      · obtain ⟨k', rfl⟩ : ∃ k', k = k' + 1 := ⟨k - 1, by omega⟩
        have hk0 : (0 : Int) < (k' : Int) + 1 := by omega
        have hw3 : IntKind.i64.wrap (k' : Int) = (k' : Int) := wrap_id (by omega) (by omega)
        have hw4 : IntKind.i64.wrap ((k' : Int) + 1 - 1) = (k' : Int) := by rw [Int.add_sub_cancel]; exact hw3
        have hk2 : (k' : Int) < us.length := by omega
        have hk3 : (0 : Int) ≤ (k' : Int) := by omega
        rw [Nat.add_sub_cancel] at hpc
        clear h0
        by_cases he2 : x ≤ P
        · have HN : Hid (uok ls.length (-1) 0 us = false) := by
            show _ = _
            rw [hinv.out.2.2.1, HD.out.1, uok_no _ _ _ _ _ (by intro h; have h1 : P + 1 ≤ x := h.1; omega)]
          have hin := fun (X : World) (n : Nat) => hide (Calls.quiet_of_same ((rwithin_w e1 (X.drewN n)).mono fun _ _ h => ⟨h.1, h.2.symm⟩))
          have HRR : Hid (ckP many ls ws B us = 24) := by show _ = _; rw [HR.out, HN.out]; rfl
          clear e1 hinv HD HR
          go_wp2
          go_quiet ((go_at_call 64; exact (hin _ _).out))
          go_wp2
          go_ret
          exact ⟨ret_int HRR.out.symm, by have := HBW.out; exact (by repeat (first | exact Below.refl _ _ | assumption | refine Below.alloc ?_ (by first | omega | (simp; omega) | simp) _ | refine Below.setCell ?_ (by first | omega | (simp; omega) | simp) _ | refine below_drewN ?_ _ | refine Below.drew ?_ | refine back ?_ (by assumption)))⟩
        have hord : P + 1 ≤ x := by omega
        cases e3 : inB 1 3600000000000 t
        · have HN : Hid (uok ls.length (-1) 0 us = false) := by
            show _ = _
            rw [hinv.out.2.2.1, HD.out.1, uok_no _ _ _ _ _ (by intro h; rw [inB_t ⟨h.2.2.1, h.2.2.2.1⟩] at e3; cases e3)]
          have hin := fun (X : World) (n : Nat) => hide (Calls.quiet_of_same ((rwithin_w e1 (X.drewN n)).mono fun _ _ h => ⟨h.1, h.2.symm⟩))
          have hin3 := fun (X : World) (n : Nat) => hide (Calls.quiet_of_same ((rwithin_w e3 (X.drewN n)).mono fun _ _ h => ⟨h.1, h.2.symm⟩))
          have HRR : Hid (ckP many ls ws B us = 24) := by show _ = _; rw [HR.out, HN.out]; rfl
          clear e1 e3 hinv HD HR
          go_wp2
          go_quiet ((go_at_call 64; (first | with_reducible exact (hin _ _).out | with_reducible exact (hin3 _ _).out)))
          go_wp2
          go_ret
          exact ⟨ret_int HRR.out.symm, by have := HBW.out; exact (by repeat (first | exact Below.refl _ _ | assumption | refine Below.alloc ?_ (by first | omega | (simp; omega) | simp) _ | refine Below.setCell ?_ (by first | omega | (simp; omega) | simp) _ | refine below_drewN ?_ _ | refine Below.drew ?_ | refine back ?_ (by assumption)))⟩
        have hin := fun (X : World) (n : Nat) => hide (Calls.quiet_of_same ((rwithin_w e1 (X.drewN n)).mono fun _ _ h => ⟨h.1, h.2.symm⟩))
        have hin3 := fun (X : World) (n : Nat) => hide (Calls.quiet_of_same ((rwithin_w e3 (X.drewN n)).mono fun _ _ h => ⟨h.1, h.2.symm⟩))
        simp only [inB, decide_eq_true_eq] at e1 e3
        by_cases e4 : A + t ≤ 230400000000000
        rotate_left
        · have HN : Hid (uok ls.length (-1) 0 us = false) := by
            show _ = _
            rw [hinv.out.2.2.1, HD.out.1, uok_no _ _ _ _ _ (by intro h; exact e4 h.2.2.2.2)]
          have HRR : Hid (ckP many ls ws B us = 24) := by show _ = _; rw [HR.out, HN.out]; rfl
          clear hinv HD HR
          go_wp2
          go_quiet ((go_at_call 64; (first | with_reducible exact (hin _ _).out | with_reducible exact (hin3 _ _).out)))
          go_wp2
          go_ret
          exact ⟨ret_int HRR.out.symm, by have := HBW.out; exact (by repeat (first | exact Below.refl _ _ | assumption | refine Below.alloc ?_ (by first | omega | (simp; omega) | simp) _ | refine Below.setCell ?_ (by first | omega | (simp; omega) | simp) _ | refine below_drewN ?_ _ | refine Below.drew ?_ | refine back ?_ (by assumption)))⟩
        obtain ⟨j, rfl⟩ : ∃ j : Nat, x = j := ⟨x.toNat, by omega⟩
        have hjl : j < ls.length := by omega
        obtain ⟨b2, off2, rfl, hbl2, hc2⟩ := s4 (by intro h; subst h; simp at hjl)
        obtain ⟨l, hl⟩ : ∃ l, lmAt ls j = l := ⟨_, rfl⟩
        have hck2 := (hc2 j hjl).below HBW.out hbl2
        have hlv := HLV.out (lmAt ls j) (by simp [lmAt, hjl])
        rw [hl] at hck2 hlv
        obtain ⟨m1, m2, m3, m4⟩ := hck2
        obtain ⟨_, _, v1, v2, v3, v4, v5, v6, _, _⟩ := ckL_in hlv
        have hlab : l.a ≠ l.b := by intro h; unfold ckL at hlv; rw [h] at hlv; simp at hlv
        obtain ⟨la, hla⟩ : ∃ q : Nat, l.a = q := ⟨l.a.toNat, by omega⟩
        obtain ⟨lb, hlb⟩ : ∃ q : Nat, l.b = q := ⟨l.b.toNat, by omega⟩
        obtain ⟨lm, hlm⟩ : ∃ q : Int, l.m = q := ⟨_, rfl⟩
        have HL : Hid (lmI ls j = l) := hl
        rw [hla] at m1; rw [hlb] at m2; rw [hlm] at m3
        have hne : la ≠ lb := by omega
        have hA1 : la < ws.length := by have := HWL.out; omega
        have hA2 : lb < ws.length := by have := HWL.out; omega
        have hlm1 : -20000 ≤ lm := by omega
        have hlm2 : lm ≤ 20000 := by omega
        have hbw2 : b2 < wr.heap.size := by have := HBW.out.size; omega
        clear hc2 hl v1 v2 v3 v4 v5 v6
        have hsm : ∀ q : Nat, -230400000000000 ≤ ufl ls (us.take (k' + 1)) (q : Int) ∧ ufl ls (us.take (k' + 1)) (q : Int) ≤ 230400000000000 := by
          intro q
          have h2 := ufl_le ls (us.take (k' + 1)) (fun u hu => (hinv.out.2.2.2.1 u hu).1) q
          rw [← hinv.out.1] at h2
          omega
        have hya := hrow.out.c la hA1
        have hyb := hrow.out.c lb hA2
        have hza := hrow.out.z la
        have hzb := hrow.out.z lb
        have hba := hsm la
        have hbb := hsm lb
        clear hsm
        have hbS := bnd_le ls (us.take (k' + 1)) (fun u hu => (hinv.out.2.2.2.1 u hu).1) (fun u hu => by
          have h1 := hinv.out.2.2.2.1 u hu
          have h2 := ckL_in (HLV.out _ (lmI_mem h1.2.1 h1.2.2))
          omega)
        rw [← hinv.out.1, ← hinv.out.2.1] at hbS
        obtain ⟨hbS1, hbS2⟩ := hbS
        have hx1 : t * lm ≤ t * 20000 := Int.mul_le_mul_of_nonneg_left hlm2 (by omega)
        have hx2 : t * (-20000) ≤ t * lm := Int.mul_le_mul_of_nonneg_left hlm1 (by omega)
        have HRS := hide (fun W : World => fun hW : RowF W w1.heap.size ws.length (upd (upd (fun q => ufl ls (us.take (k' + 1)) (q : Nat)) lb (ufl ls (us.take (k' + 1)) lb + t)) la (ufl ls (us.take (k' + 1)) la - t)) => hW.cong (f' := fun q => ufl ls (us.take (k' + 1 + 1)) (q : Nat)) (fun q _ => by rw [HD.out.2.1]; exact ufl_upd ls _ _ la lb t rfl (by rw [show (Us.mk (j : Int) t).l = j from rfl, HL.out, hla]) (by rw [show (Us.mk (j : Int) t).l = j from rfl, HL.out, hlb]) hne q))
        have HRW := hide (fun W : World => fun hW : RowF W w1.heap.size ws.length (fun q => ufl ls (us.take (k' + 1)) (q : Nat)) => ((hW.set lb (ufl ls (us.take (k' + 1)) lb + t) hA2)).set la (ufl ls (us.take (k' + 1)) la - t) hA1)
        obtain ⟨ya, hyA⟩ : ∃ q, ufl ls (us.take (k' + 1)) (la : Int) = q := ⟨_, rfl⟩
        obtain ⟨yb, hyB⟩ : ∃ q, ufl ls (us.take (k' + 1)) (lb : Int) = q := ⟨_, rfl⟩
        rw [hyA] at hya hba HRS HRW
        rw [hyB] at hyb hbb HRS HRW
        obtain ⟨ba1, ba2⟩ := hba
        obtain ⟨bb1, bb2⟩ := hbb
        obtain ⟨t1, t2⟩ := e3
        clear hyA hyB hla hlb
        have hne' : ¬ lb = la := fun h => hne h.symm
        have hkk : ¬ ((k' : Int) + 1) + 1 = 0 := by omega
        go_wp2
        go_quiet ((go_at_call 64; (first | with_reducible exact (hin _ _).out | with_reducible exact (hin3 _ _).out)))
        go_wp2
        go_region
        go_wp2
        go_region
        go_wp2
        have hsz9 := hbw.out.size
        have hh0 := HZ.out
        refine ⟨⟨k' + 1 + 1, A + t, S + t * lm, by go_num, by go_num, by go_num, by omega, by omega, by omega, hide ⟨?_, ?_, ?_, ?_, ?_⟩, hide ?_, hide ?_, by simp; omega⟩, by simp [intOf]; omega⟩
        · rw [HD.out.2.1, alls_snoc, hinv.out.1]
        · rw [HD.out.2.1, bnd_snoc, hinv.out.2.1, show (Us.mk (j : Int) t).l = j from rfl, HL.out, hlm]
        · rw [hinv.out.2.2.1, HD.out.1, HD.out.2.2, uok_cons _ _ _ _ _ ⟨hord, e1.2, t1, t2, e4⟩]
        · intro u hu
          rw [HD.out.2.1] at hu
          rcases List.mem_append.1 hu with hu | hu
          · exact hinv.out.2.2.2.1 u hu
          · rw [List.mem_singleton.1 hu]; exact ⟨by show (0 : Int) ≤ t; omega, by show (0 : Int) ≤ (j : Int); omega, by show (j : Int) ≤ _; omega⟩
        · rw [HD.out.2.2]; show -1 ≤ (j : Int); omega
        · refine HRS.out _ ?_
          repeat (first | exact hrow.out | refine RowF.drew ?_ | refine RowF.drewN ?_ | refine RowF.alloc ?_ (by first | exact hgw | omega | (simp; omega)) | refine RowF.set ?_ la _ hA1 | refine RowF.set ?_ lb _ hA2)
        · repeat (first | exact hbw.out | refine Below.drew ?_ | refine below_drewN ?_ _ | refine Below.alloc ?_ (by first | omega | (simp; omega)) _ | refine Below.setCell ?_ (by first | exact hh0 | (simp; omega)) _)
    · have hkl : k = us.length := by omega
      subst hkl
      have HE : Hid (uok ls.length (-1) 0 us = true ∧ S = bnd ls us) := by
        refine ⟨?_, ?_⟩
        · rw [hinv.out.2.2.1, List.drop_length]; rfl
        · have := hinv.out.2.1; rw [List.take_length] at this; exact this
      have HR1 : Hid (ckP many ls ws B us = if S = B ∧ flows many ls ws us = true then 0 else 24) := by
        show _ = _
        rw [HR.out, HE.out.1, ← HE.out.2]; simp
      have HROW := hrow
      rw [List.take_length] at HROW
      have hfb : ∀ q : Nat, q < ws.length → FB (ufl ls us (q : Int)) := by
        intro q hq
        have h2 := ufl_le ls us (fun u hu => (hinv.out.2.2.2.1 u (by rw [List.take_length]; exact hu)).1) q
        have h3 := hinv.out.1
        rw [List.take_length] at h3
        rw [← h3] at h2
        constructor <;> omega
      have HFB := hide hfb
      obtain ⟨b3, off3, rfl, hbl3, hc3⟩ := x4 (by intro h; subst h; have := HWL.out; simp at this; omega)
      have HC3 := hide (fun (q : Nat) (hq : q < ws.length) => (HBW.out.cell (p := ⟨b3, off3 + q, none⟩) hbl3).trans (hc3 q hq))
      have hb3 : b3 < wr.heap.size := by have := HBW.out.size; omega
      clear hinv hrow hfb hc3 HR
      go_wp2
      go_outline
      go_loopw [14] (fun i wx => ∃ j m : Nat, i = .int .i64 j ∧ 1 ≤ j ∧ (j : Int) ≤ many + 1 ∧ Hid (∀ q, 1 ≤ q → q < j → ufl ls us (q : Int) = ws[q]?.getD 0) ∧ wx = wr.drewN m) (fun i _ => (many + 1).toNat - (intOf i).toNat)
      case atStart => exact ⟨1, 0, rfl, Nat.le_refl _, by omega, hide (fun q h1 h2 => by omega), rfl⟩
      case round =>
        obtain ⟨j, m, rfl, hj1, hj2, hinv, rfl⟩ := hrel
        by_cases hjm : (j : Int) ≤ many
        · have hjl : j < ws.length := by have := HWL.out; omega
          have hj3 : (j : Int) < ws.length := by omega
          have c1 := HROW.out.c j hjl
          have c2 := HC3.out j hjl
          have hff := HFB.out j hjl
          obtain ⟨y, hy⟩ : ∃ y, ufl ls us (j : Int) = y := ⟨_, rfl⟩
          obtain ⟨z, hz⟩ : ∃ z, ws[j]?.getD 0 = z := ⟨_, rfl⟩
          rw [hy] at c1 hff
          rw [hz] at c2
          by_cases hyz : y = z
          · have HN : Hid (∀ q, 1 ≤ q → q < j + 1 → ufl ls us (q : Int) = ws[q]?.getD 0) := by
              intro q h1 h2
              rcases Nat.lt_or_ge q j with h | h
              · exact hinv.out q h1 h
              · have : q = j := by omega
                subst this
                rw [hy, hz, hyz]
            have hyz1 : (y != z) = false := by simpa using hyz
            clear hy hz hyz hinv
            go_wp2
            go_quiet (fail)
            go_wp2
            exact ⟨⟨j + 1, _, by go_num, by omega, by omega, HN, (by first | rfl | exact World.drewN_drewN _ _ _)⟩, by simp [intOf]; omega⟩
          · have HRR : Hid (ckP many ls ws B us = 24) := by
              show _ = _
              rw [HR1.out, if_neg]
              rintro ⟨_, h⟩
              have h2 := List.all_eq_true.1 h j (List.mem_range.2 hjl)
              simp only [Bool.or_eq_true, decide_eq_true_eq, beq_iff_eq] at h2
              rcases h2 with h2 | h2
              · omega
              · rw [hy, hz] at h2; exact hyz h2
            have hyz1 : (y != z) = true := by simpa using hyz
            clear hy hz hyz hinv
            go_wp2
            go_quiet (fail)
            go_wp2
            go_ret
            exact ⟨ret_int HRR.out.symm, by have := HBW.out; exact (by repeat (first | exact Below.refl _ _ | assumption | refine Below.alloc ?_ (by first | omega | (simp; omega) | simp) _ | refine Below.setCell ?_ (by first | omega | (simp; omega) | simp) _ | refine below_drewN ?_ _ | refine Below.drew ?_ | refine back ?_ (by assumption)))⟩
        · have HFL : Hid (flows many ls ws us = true) := by
            show _ = _
            refine List.all_eq_true.2 fun q hq => ?_
            have hq' := List.mem_range.1 hq
            by_cases h0 : q = 0
            · simp [h0]
            · have := hinv.out q (by omega) (by have := HWL.out; omega)
              simp [h0, this]
          have q2'' := q2'
          by_cases hSB : S = B
          · have hSB' : (S != B) = false := by simpa using hSB
            have HRR : Hid (ckP many ls ws B us = 0) := by show _ = _; rw [HR1.out, if_pos ⟨hSB, HFL.out⟩]
            go_wp2
            go_ret
            exact ⟨ret_int HRR.out.symm, by have := HBW.out; exact (by repeat (first | exact Below.refl _ _ | assumption | refine Below.alloc ?_ (by first | omega | (simp; omega) | simp) _ | refine Below.setCell ?_ (by first | omega | (simp; omega) | simp) _ | refine below_drewN ?_ _ | refine Below.drew ?_ | refine back ?_ (by assumption)))⟩
          · have hSB' : (S != B) = true := by simpa using hSB
            have HRR : Hid (ckP many ls ws B us = 24) := by show _ = _; rw [HR1.out, if_neg (fun h => hSB h.1)]
            go_wp2
            go_ret
            exact ⟨ret_int HRR.out.symm, by have := HBW.out; exact (by repeat (first | exact Below.refl _ _ | assumption | refine Below.alloc ?_ (by first | omega | (simp; omega) | simp) _ | refine Below.setCell ?_ (by first | omega | (simp; omega) | simp) _ | refine below_drewN ?_ _ | refine Below.drew ?_ | refine back ?_ (by assumption)))⟩
end Go.Proofs.YtpedbdicjgdgkaaGreat

/- The question whether a source is none of some. -/
namespace Go.Proofs.YtpedbdicjgdgkaaGreat
open Go Go.RowKit Go.Lib Go.Shelf

theorem IsL.parts {w : World} {v : Value} {xs : List Int} (h : IsL w v xs) (hn : Nice v) : (v = .slice none 0 0 ∧ xs = []) ∨ ∃ b off c, v = .slice (some ⟨b, off, none⟩) xs.length c ∧ xs.length ≤ c ∧ (xs ≠ [] → b < w.heap.size) ∧ ∀ j, j < xs.length → w.cell? ⟨b, off + j, none⟩ = some (.int .i64 (xs.getD j 0)) := by
  obtain ⟨a, c, rfl, l1, m1, _, k1⟩ := h
  rcases hn with e | ⟨b, off, n, c', e⟩
  · obtain ⟨_, e2, _⟩ := Value.slice.inj e
    have := List.length_eq_zero_iff.1 e2
    subst this
    exact .inl ⟨e, rfl⟩
  · obtain ⟨rfl, e2, _⟩ := Value.slice.inj e
    refine .inr ⟨b, off, c, rfl, l1, ?_, fun j hj => ?_⟩
    · intro hne
      obtain ⟨b', off', e', hb, _⟩ := k1 hne
      cases e'
      exact hb
    · obtain ⟨b', off', e', hb, hc⟩ := k1 (by intro h; subst h; simp at hj)
      cases e'
      have := hc j hj
      rw [this]; simp [List.getD]
theorem cloneI_w (v : Value) (xs : List Int) (w : World) (h : IsL w v xs) (hn : Nice v) (hbig : xs.length * 8 ≤ 140737488355328) :
    Calls Tryz.prog 107 #[v] w fun e w' => ∃ v', e = .returned v' ∧ OwI w.heap.size w' v' xs ∧ Below w.heap.size w w' := by
  rcases h.parts hn with ⟨rfl, rfl⟩ | ⟨b, off, c, rfl, hc, _, hcell⟩
  · have := Any.slices_Clone_int_nil laysNm215 0 0 w
    change Calls Tryz.prog 107 _ _ _ at this
    refine this.mono ?_
    rintro e w' ⟨rfl, rfl⟩
    exact ⟨_, rfl, World.ownsRow_nil _ _ _ _, Below.refl _ _⟩
  · have := Any.slices_Clone_int laysNm215 b off xs.length c xs w (Nat.le_refl _) hbig hcell
    change Calls Tryz.prog 107 _ _ _ at this
    refine this.mono ?_
    rintro e w' ⟨v', rfl, ho, _, hb⟩
    rw [List.take_length] at ho
    exact ⟨v', rfl, ho, hb⟩
theorem search_w (v : Value) (xs : List Int) (x : Int) (w : World) (h : IsL w v xs) (hn : Nice v) (hinc : xs.Pairwise (· < ·)) (hbig : xs.length * 8 ≤ 140737488355328) :
    Calls Tryz.prog 109 #[v, .int .i64 x] w fun e w' => (∃ i : Nat, e = .returned (.tuple #[.int .i64 (i : Int), .bool (xs.contains x)])) ∧ ∃ q, w' = w.drewN q := by
  rcases h.parts hn with ⟨rfl, rfl⟩ | ⟨b, off, c, rfl, hc, _, hcell⟩
  · have := Any.slices_BinarySearch_int_empty laysNm225 none 0 x w
    change Calls Tryz.prog 109 _ _ _ at this
    refine this.mono ?_
    rintro e w' ⟨rfl, rfl⟩
    exact ⟨⟨0, rfl⟩, 0, rfl⟩
  · have := Any.slices_BinarySearch_int laysNm225 b off xs.length c xs x w (Nat.le_refl _) (by omega) hcell (by rw [List.take_length]; exact hinc.imp (fun h => by omega))
    change Calls Tryz.prog 109 _ _ _ at this
    refine this.mono ?_
    rintro e w' ⟨rfl, hq⟩
    rw [List.take_length]
    exact ⟨⟨_, rfl⟩, hq⟩

set_option maxRecDepth 100000 in
set_option maxHeartbeats 4000000 in
theorem asks_w (B : Nat) (v : Value) (xs : List Int) (x : Int) (w : World) (hB : w.cell? ⟨B, 0, none⟩ = some v) (h : IsL w v xs) (hn : Nice v) (hinc : xs.Pairwise (· < ·)) (hbig : xs.length * 8 ≤ 140737488355328) :
    Calls Tryz.prog 108 #[.int .i64 x, .pointer (some ⟨B, 0, none⟩)] w fun e w' => e = .returned (.bool (!xs.contains x)) ∧ ∃ q, w' = w.drewN q := by
  have HS := fun q : Nat => hide (search_w v xs x (w.drewN q) (h.below (below_drewN (Below.refl _ _) q)) hn hinc hbig)
  have HS0 := hide (search_w v xs x w h hn hinc hbig)
  clear h hinc hbig
  obtain ⟨b, hb⟩ : ∃ b, xs.contains x = b := ⟨_, rfl⟩
  rw [hb] at HS0 ⊢
  go_enter Tryz.func108, Tryz.ntmps108
  go_wp2_with (go_at_call 109; go_loud (refine (HS0.out).mono ?_; rintro e w' ⟨⟨i, rfl⟩, q, rfl⟩))
  go_ret
  exact ⟨rfl, q, rfl⟩

set_option maxRecDepth 100000 in
set_option maxHeartbeats 4000000 in
theorem notOf_w (v : Value) (xs : List Int) (w : World) (h : IsL w v xs) (hn : Nice v) (hbig : xs.length * 8 ≤ 140737488355328) :
    Calls Tryz.prog 68 #[v] w fun e w' => ∃ B v', e = .returned (.func (.func 108) #[] #[.pointer (some ⟨B, 0, none⟩)]) ∧ w.heap.size ≤ B ∧ B < w'.heap.size ∧ w'.cell? ⟨B, 0, none⟩ = some v' ∧ Nice v' ∧ IsL w' v' (rsn xs) ∧ Below w.heap.size w w' := by
  have hf : ∀ x ∈ xs, FB x := by obtain ⟨_, _, _, _, _, hf, _⟩ := h; exact hf
  have HF : Hid (∀ x ∈ rsn xs, FB x) := hide (fun x hx => hf x ((rsn_mem xs x).1 hx))
  have HC := hide (cloneI_w v xs w h hn hbig)
  have HR := fun (v1 : Value) (w1 : World) => fun (h1 : OwI w.heap.size w1 v1 xs) (h2 : w.heap.size ≤ w1.heap.size) => hide (rising_w w.heap.size v1 xs w1 h1 h2 hbig)
  clear h hn hbig hf
  go_enter Tryz.func68, Tryz.ntmps68
  go_wp2_with (first
    | (go_at_call 107; go_loud (refine (HC.out).mono ?_; rintro e w1 ⟨v1, rfl, ho1, hb1⟩; have HR1 := HR v1 w1 ho1 hb1.size; have HB1 := hide hb1; clear ho1 hb1))
    | (go_at_call 65; go_loud (refine (HR1.out).mono ?_; rintro e w2 ⟨v2, rfl, ho2, hb2⟩; have HB2 := hide (HB1.out.trans hb2); have HN2 := hide (own_nice ho2); have HL2 := hide (ho2.isL HF.out); clear ho2 hb2; obtain ⟨p2, n2, c2, rfl⟩ : ∃ p n c, v2 = .slice p n c := (by rcases HN2.out with rfl | ⟨_, _, _, _, rfl⟩ <;> exact ⟨_, _, _, rfl⟩))))
  go_ret
  exact ⟨w2.heap.size, .slice p2 n2 c2, rfl, HB2.out.size, by simp, cell_new (by simp), HN2.out, HL2.out.below ((Below.refl _ w2).alloc (Nat.le_refl _) _), HB2.out.alloc HB2.out.size _⟩
end Go.Proofs.YtpedbdicjgdgkaaGreat

/- Whether a proof is one: the program's side. -/
namespace Go.Proofs.YtpedbdicjgdgkaaGreat
open Go Go.RowKit

set_option maxRecDepth 100000 in
set_option maxHeartbeats 4000000 in
theorem checkProof_w (many : Int) (a : Option Addr) (n cap : Nat) (ls : List Lm) (aw : Option Addr) (nw cw : Nat) (ws : List Int) (B : Int) (au : Option Addr) (nu cu : Nat) (us : List Us) (w : World)
    (hS : IsS w (.slice a n cap) ls) (hW : IsL w (.slice aw nw cw) ws) (hN : Nice (.slice aw nw cw)) (hU : IsU w (.slice au nu cu) us) :
    Calls Tryz.prog 47 #[.agg #[.int .i64 many, .slice a n cap], .slice aw nw cw, .agg #[.int .i64 B, .slice au nu cu]] w fun e w' => e = .returned (.int .i64 (ckP many ls ws B us)) ∧ Below w.heap.size w w' := by
  have HAK := fun (X : World) => fun (hX : Below w.heap.size w X) => hide (checkWeights_w many a n cap ls aw nw cw ws X (hS.below hX) (hW.below hX))
  have HAU := fun (X : World) => fun (hX : Below w.heap.size w X) (hck : ckW many ls ws = 0) => hide (addsUp_w cloneI_w many a n cap ls aw nw cw ws B au nu cu us X (hS.below hX) (hW.below hX) hN (hU.below hX) hck)
  have hlu : nu = us.length := by obtain ⟨_, _, e, _⟩ := hU; cases e; rfl
  have hmx : nu ≤ 9223372036854775807 := by obtain ⟨_, _, e, h1, h2, _⟩ := hU; cases e; unfold maxLen at h2; omega
  have KC := hide (show ∀ V, Below (w.heap.size + 1 + 1) ((w.alloc (.cells #[.int .i64 many, .slice a n cap] 24)).alloc (.cells #[.int .i64 B, .slice au nu cu] 54)) V → V.cell? ⟨w.heap.size, 0, none⟩ = some (.int .i64 many) ∧ V.cell? ⟨w.heap.size, 1, none⟩ = some (.slice a n cap) ∧ V.cell? ⟨w.heap.size + 1, 0, none⟩ = some (.int .i64 B) ∧ V.cell? ⟨w.heap.size + 1, 1, none⟩ = some (.slice au nu cu) from fun V hV => by
    have c : ∀ b o u, b < w.heap.size + 1 + 1 → ((w.alloc (.cells #[.int .i64 many, .slice a n cap] 24)).alloc (.cells #[.int .i64 B, .slice au nu cu] 54)).cell? ⟨b, o, none⟩ = some u → V.cell? ⟨b, o, none⟩ = some u := fun b o u hlt h => (hV.cell (p := ⟨b, o, none⟩) hlt).trans h
    exact ⟨c _ _ _ (by omega) ((cell_old (by simp)).trans (cell_new rfl)), c _ _ _ (by omega) ((cell_old (by simp)).trans (cell_new rfl)), c _ _ _ (by omega) (cell_new (by simp)), c _ _ _ (by omega) (cell_new (by simp))⟩)
  have HBS : Hid (Below w.heap.size w ((w.alloc (.cells #[.int .i64 many, .slice a n cap] 24)).alloc (.cells #[.int .i64 B, .slice au nu cu] 54))) := hide (((Below.refl _ w).alloc (Nat.le_refl _) _).alloc (by simp) _)
  by_cases hck : ckW many ls ws = 0
  rotate_left
  · have HR : Hid (ckP many ls ws B us = ckW many ls ws) := by show _ = _; unfold ckP; rw [if_neg hck]
    obtain ⟨r, hr⟩ : ∃ r, ckW many ls ws = r := ⟨_, rfl⟩
    rw [hr] at hck HR HAK
    have h1 : (r != 0) = true := by simpa using hck
    clear hr hck HAU hS hW hU hN hlu
    go_enter Tryz.func47, Tryz.ntmps47
    go_wp2_with (go_at_call 91; refine (HAK _ HBS.out).out.mono ?_; rintro e w1 ⟨rfl, hb1⟩)
    go_ret
    exact ⟨ret_int HR.out.symm, by have := HBS.out; exact (by repeat (first | exact Below.refl _ _ | assumption | refine Below.alloc ?_ (by first | omega | (simp; omega) | simp) _ | refine Below.setCell ?_ (by first | omega | (simp; omega) | simp) _ | refine below_drewN ?_ _ | refine Below.drew ?_ | refine back ?_ (by assumption)))⟩
  have HAU' := fun (X : World) => fun (hX : Below w.heap.size w X) => HAU X hX hck
  rw [hck] at HAK
  by_cases hul : (400 : Int) < nu
  · have HR : Hid (ckP many ls ws B us = 24) := by show _ = _; unfold ckP; rw [if_pos hck, if_neg (fun h => by have := h.1; omega)]
    clear hck HAU HAU' hS hW hU hN hlu
    go_enter Tryz.func47, Tryz.ntmps47
    go_wp2_with (go_at_call 91; refine (HAK _ HBS.out).out.mono ?_; rintro e w1 ⟨rfl, hb1⟩; have hz1 := hb1.size; simp at hz1; have hb1' := hb1.mono (B' := w.heap.size + 1 + 1) (by simp); obtain ⟨q0, q1, q2, q3⟩ := KC.out _ hb1')
    go_ret
    exact ⟨ret_int HR.out.symm, by have := HBS.out; exact (by repeat (first | exact Below.refl _ _ | assumption | refine Below.alloc ?_ (by first | omega | (simp; omega) | simp) _ | refine Below.setCell ?_ (by first | omega | (simp; omega) | simp) _ | refine below_drewN ?_ _ | refine Below.drew ?_ | refine back ?_ (by assumption)))⟩
  obtain ⟨z, hz⟩ : ∃ z, (uok ls.length (-1) 0 us && (decide (bnd ls us = B) && flows many ls ws us)) = z := ⟨_, rfl⟩
  have HR : Hid (ckP many ls ws B us = if z = true then 0 else 24) := by
    show _ = _; unfold ckP; rw [if_pos hck, ← hz]
    have : us.length ≤ 400 := by omega
    simp only [this, true_and, Bool.and_eq_true, decide_eq_true_eq]
  rw [hz] at HAU'
  clear hz hck HAU hS hW hU hN hlu
  cases z
  all_goals
    go_enter Tryz.func47, Tryz.ntmps47
    go_wp2_with (first
      | (go_at_call 91; refine (HAK _ HBS.out).out.mono ?_; rintro e w1 ⟨rfl, hb1⟩; have hz1 := hb1.size; simp at hz1; have hb1' := hb1.mono (B' := w.heap.size + 1 + 1) (by simp); obtain ⟨q0, q1, q2, q3⟩ := KC.out _ hb1'; have HB1 := hide (HBS.out.trans (hb1'.mono (by omega))))
      | (go_at_call 92; refine (HAU' _ HB1.out).out.mono ?_; rintro e w2 ⟨rfl, hb2⟩))
    go_ret
    exact ⟨ret_int (by rw [HR.out]; rfl), HB1.out.trans (hb2.mono HB1.out.size)⟩
end Go.Proofs.YtpedbdicjgdgkaaGreat

/- The system without the limits of some sources: the program's side. -/
namespace Go.Proofs.YtpedbdicjgdgkaaGreat
open Go Go.RowKit
theorem own_drawn {B e size n : Nat} {w : World} {v : Value} {xs : List Value} (h : w.ownsRow B e size v n xs) (q : Nat) : (w.drewN q).ownsRow B e size v n xs := h
theorem below_drawn {B : Nat} {a w : World} (h : Below B a w) (n : Nat) : Below B a (w.drewN n) := h.trans ⟨rfl, rfl, rfl, Nat.le_refl _, fun _ _ => rfl⟩
theorem own_form {B e size n : Nat} {w : World} {v : Value} {xs : List Value} (h : w.ownsRow B e size v n xs) : ∃ a n c, v = .slice a n c := by
  rcases h.2 with ⟨rfl, _⟩ | ⟨g, cap, cur, rfl, _⟩ <;> exact ⟨_, _, _, rfl⟩
theorem own_base {B B' e size n : Nat} {w : World} {v : Value} {xs : List Value} (h : w.ownsRow B e size v n xs) (hb : B' ≤ B) : w.ownsRow B' e size v n xs := by
  obtain ⟨h1, h2⟩ := h
  refine ⟨h1, ?_⟩
  rcases h2 with h2 | ⟨g, cap, cur, h3, h4, h5⟩
  · exact .inl h2
  · exact .inr ⟨g, cap, cur, h3, Nat.le_trans hb h4, h5⟩
set_option maxRecDepth 100000 in
set_option maxHeartbeats 4000000 in
theorem part_w (B : Nat) (many : Int) (a : Option Addr) (n cap : Nat) (ls : List Lm) (v : Value) (xs : List Int) (w : World) (h : IsS w (.slice a n cap) ls) (hbig : ls.length * 32 ≤ 140737488355328)
    (hB : w.cell? ⟨B, 0, none⟩ = some v) (hBw : B < w.heap.size) (hv : IsL w v xs) (hn : Nice v) (hinc : xs.Pairwise (· < ·)) (hx : xs.length * 8 ≤ 140737488355328) :
    Calls Tryz.prog 67 #[.agg #[.int .i64 many, .slice a n cap], .func (.func 108) #[] #[.pointer (some ⟨B, 0, none⟩)]] w fun e w' => ∃ v', e = .returned (.agg #[.int .i64 many, v']) ∧ OwL w.heap.size w' v' (wo xs ls) ∧ Below w.heap.size w w' := by
  have HQ := fun (y : Int) (X : World) => fun (hX : Below w.heap.size w X) => hide (asks_w B v xs y X ((hX.cell (p := ⟨B, 0, none⟩) hBw).trans hB) (hv.below hX) hn hinc hx)
  obtain ⟨a', cap', hv', h1, h2, h3, h4⟩ := h
  cases hv'
  unfold maxLen at h2
  have H3 := hide h3; have HB := hide hbig; clear h3 hbig hB hv hn hinc hx hBw
  go_enter Tryz.func67, Tryz.ntmps67
  go_wp2
  obtain ⟨W0, hW0⟩ : ∃ W, (w.alloc (.cells #[.int .i64 many, .slice a ls.length cap] 24)).alloc (.cells #[.int .i64 0, .slice none 0 0] 24) = W := ⟨_, rfl⟩
  have hz0 : W0.heap.size = w.heap.size + 1 + 1 := by rw [← hW0]; simp
  have hB0 : Below w.heap.size w W0 := by rw [← hW0]; exact (by repeat (first | exact Below.refl _ _ | assumption | refine Below.alloc ?_ (by first | omega | (simp; omega) | simp) _ | refine Below.setCell ?_ (by first | omega | (simp; omega) | simp) _ | refine below_drewN ?_ _ | refine Below.drew ?_ | refine back ?_ (by assumption)))
  have s0 : W0.cell? ⟨w.heap.size, 0, none⟩ = some (.int .i64 many) := by rw [← hW0]; exact (cell_old (by simp)).trans (cell_new (by simp))
  have s1 : W0.cell? ⟨w.heap.size, 1, none⟩ = some (.slice a ls.length cap) := by rw [← hW0]; exact (cell_old (by simp)).trans (cell_new (by simp))
  have t0 : W0.cell? ⟨w.heap.size + 1, 0, none⟩ = some (.int .i64 0) := by rw [← hW0]; exact cell_new (by simp)
  have t1 : W0.cell? ⟨w.heap.size + 1, 1, none⟩ = some (.slice none 0 0) := by rw [← hW0]; exact cell_new (by simp)
  have t2 : W0.frozen? ⟨w.heap.size + 1, 0, none⟩ = false := by rw [← hW0]; exact frozen_new (by simp)
  have t3 : W0.frozen? ⟨w.heap.size + 1, 1, none⟩ = false := by rw [← hW0]; exact frozen_new (by simp)
  rw [hW0]
  have HZ0 := hide hz0; have HB0 := hide hB0; have HS := hide (And.intro s0 (And.intro s1 (And.intro t0 (And.intro t1 (And.intro t2 t3)))))
  clear hW0 hz0 hB0 s0 s1 t0 t1 t2 t3
  go_outline
  go_loopw [5, 11] (fun o i wr => ∃ (k : Nat), i = .int .i64 k ∧ k ≤ ls.length ∧ Hid (OwL (w.heap.size + 1 + 1) wr o (wo xs (ls.take k))) ∧ Hid (Below (w.heap.size + 1 + 1) W0 wr) ∧ w.heap.size + 1 + 1 ≤ wr.heap.size) (fun _ i _ => ls.length - (intOf i).toNat)
  case atStart => exact ⟨0, rfl, Nat.zero_le _, hide (OwL.nil _ _), hide (Below.refl _ _), by rw [HZ0.out]; exact Nat.le_refl _⟩
  case round =>
    obtain ⟨k, rfl, hk, ho, hb0, hlw⟩ := hrel
    have hbw : Below w.heap.size w wr := HB0.out.trans (hb0.out.mono (by omega))
    by_cases hlt : k < ls.length
    · obtain ⟨b, off, rfl, hbl, hc⟩ := h4 (by intro h; subst h; simp at hlt)
      obtain ⟨l, hl⟩ : ∃ l, lmAt ls k = l := ⟨_, rfl⟩
      have hck := (hc k hlt).below hbw hbl
      rw [hl] at hck
      obtain ⟨d1, d2, d3, d4⟩ := hck
      have HT := hide (wo_take xs ls k hlt l hl)
      clear hl hc
      have hbw' : b < wr.heap.size := by omega
      have hask := HQ l.y
      by_cases hin : l.y ∈ xs
      · have hd : (!xs.contains l.y) = false := by simpa using hin
        have HTT : Hid (wo xs (ls.take (k + 1)) = wo xs (ls.take k)) := by show _ = _; rw [HT.out, if_pos hin, List.append_nil]
        rw [hd] at hask
        clear hd HT hin
        have hB2 : Below (w.heap.size + 1 + 1) W0 (wr.alloc (.cells #[.int .i64 l.a, .int .i64 l.b, .int .i64 l.m, .int .i64 l.y] 26)) := hb0.out.alloc (by omega) _
        have HB2 := hide hB2
        clear hB2
        go_wp2_with (go_at_call 108; go_loud (refine (hask _ (by repeat (first | exact Below.refl _ _ | assumption | refine Below.alloc ?_ (by first | omega | (simp; omega) | simp) _ | refine Below.setCell ?_ (by first | omega | (simp; omega) | simp) _ | refine below_drewN ?_ _ | refine Below.drew ?_ | refine back ?_ (by assumption)))).out.mono ?_; rintro e w2 ⟨rfl, q, rfl⟩))
        exact ⟨⟨k + 1, by go_num, by omega, by rw [HTT.out]; exact hide (World.ownsRow.alloc ho.out _), hide (below_drawn HB2.out _), by simp; omega⟩, by simp [intOf]; omega⟩
      · have hd : (!xs.contains l.y) = true := by simpa using hin
        have HTT : Hid (wo xs (ls.take (k + 1)) = wo xs (ls.take k) ++ [l]) := by show _ = _; rw [HT.out, if_neg hin]
        rw [hd] at hask
        clear hd HT hin
        have HLL := hide (show (wo xs (ls.take k)).length ≤ k by have := wo_len xs (ls.take k); rw [List.length_take] at this; omega)
        go_wp2_with (first
          | (go_at_call 108; go_loud (refine (hask _ (by repeat (first | exact Below.refl _ _ | assumption | refine Below.alloc ?_ (by first | omega | (simp; omega) | simp) _ | refine Below.setCell ?_ (by first | omega | (simp; omega) | simp) _ | refine below_drewN ?_ _ | refine Below.drew ?_ | refine back ?_ (by assumption)))).out.mono ?_; rintro e w2 ⟨rfl, q, rfl⟩; have HOW := hide (show OwL (w.heap.size + 1 + 1) (((wr.alloc (.cells #[.int .i64 l.a, .int .i64 l.b, .int .i64 l.m, .int .i64 l.y] 26)).drewN q).alloc (.cells #[.int .i64 l.a, .int .i64 l.b, .int .i64 l.m, .int .i64 l.y] 26)) _ (wo xs (ls.take k)) from World.ownsRow.alloc (own_drawn (World.ownsRow.alloc ho.out _) q) _); have HBB := hide (show Below (w.heap.size + 1 + 1) W0 (((wr.alloc (.cells #[.int .i64 l.a, .int .i64 l.b, .int .i64 l.m, .int .i64 l.y] 26)).drewN q).alloc (.cells #[.int .i64 l.a, .int .i64 l.b, .int .i64 l.m, .int .i64 l.y] 26)) from (below_drawn (hb0.out.alloc (by omega) _) q).alloc (by simp; omega) _); have HZZ := hide (show (((wr.alloc (.cells #[.int .i64 l.a, .int .i64 l.b, .int .i64 l.m, .int .i64 l.y] 26)).drewN q).alloc (.cells #[.int .i64 l.a, .int .i64 l.b, .int .i64 l.m, .int .i64 l.y] 26)).heap.size = wr.heap.size + 1 + 1 by simp)))
          | (at_builtin; go_loud (refine catL_w rfl (.tmp 19) (.tmp 21) rfl (w.heap.size + 1 + 1) (((wr.alloc (.cells #[.int .i64 l.a, .int .i64 l.b, .int .i64 l.m, .int .i64 l.y] 26)).drewN q).alloc (.cells #[.int .i64 l.a, .int .i64 l.b, .int .i64 l.m, .int .i64 l.y] 26)) _ (.slice (some ⟨wr.heap.size + 1, 0, none⟩) 1 1) (wo xs (ls.take k)) [l] HOW.out rfl rfl (by have := one_srcL (W := (wr.alloc (.cells #[.int .i64 l.a, .int .i64 l.b, .int .i64 l.m, .int .i64 l.y] 26)).drewN q) (l := l) rfl; simpa using this) (by have := HB.out; have := HLL.out; simp only [List.length_cons, List.length_nil]; omega) (by rw [HZZ.out]; omega) ?_; intro v2 W2 ho2 hg2 _ hf2; have hb2 := grown_bel HOW.out (by rw [HZZ.out]; omega) hg2; have zz2 := hb2.size; rw [HZZ.out] at zz2; rw [← HTT.out] at ho2; have HO2 := hide ho2; have HB2 := hide (HBB.out.trans hb2); clear hb2 ho2 hg2 hf2)))
        exact ⟨⟨k + 1, by go_num, by omega, HO2, HB2, by omega⟩, by simp [intOf]; omega⟩
    · have hkl : k = ls.length := by omega
      have HE : Hid (ls.take k = ls) := by show _ = _; rw [hkl, List.take_length]
      clear hkl
      rw [HE.out] at ho
      obtain ⟨a2, n2, c2, e2⟩ := own_form ho.out
      subst e2
      obtain ⟨x0, x1, x2, x3, x4, x5⟩ := HS.out
      have y0 := (hb0.out.cell (p := ⟨w.heap.size, 0, none⟩) (by show w.heap.size < _; omega)).trans x0
      have y1 := (hb0.out.cell (p := ⟨w.heap.size, 1, none⟩) (by show w.heap.size < _; omega)).trans x1
      have y2 := (hb0.out.cell (p := ⟨w.heap.size + 1, 0, none⟩) (by show w.heap.size + 1 < _; omega)).trans x2
      have y3 := (hb0.out.cell (p := ⟨w.heap.size + 1, 1, none⟩) (by show w.heap.size + 1 < _; omega)).trans x3
      have y4 := (hb0.out.frozen (p := ⟨w.heap.size + 1, 0, none⟩) (by show w.heap.size + 1 < _; omega)).trans x4
      have y5 := (hb0.out.frozen (p := ⟨w.heap.size + 1, 1, none⟩) (by show w.heap.size + 1 < _; omega)).trans x5
      clear x0 x1 x2 x3 x4 x5
      go_wp2
      refine bodyPost_ret (v := .agg #[.int .i64 many, .slice a2 n2 c2]) (by simp [results, Tryz.results67, go_sem, y0, y1, y2, y3, y4, y5]) rfl ⟨_, rfl, ?_, ?_⟩
      · exact own_base (ownsRow_set (ownsRow_set ho.out (by show w.heap.size + 1 < _; omega)) (by show w.heap.size + 1 < _; omega)) (by omega)
      · exact (hbw.setCell (by show w.heap.size ≤ w.heap.size + 1; omega) _).setCell (by show w.heap.size ≤ w.heap.size + 1; omega) _
end Go.Proofs.YtpedbdicjgdgkaaGreat
