import Derived.Test.YtlpoenoijmifdaaFld
import Derived.Test.YtlpoenoijmifdaaLfr
import Derived.Outline
import Derived.Deep.DeepCutAuto
import Derived.StillTailTactics
import Derived.IntWalk
set_option linter.unusedVariables false
set_option linter.unusedSimpArgs false
namespace Go.Proofs.Ytlpoenoijmifdaa
open Go.RowKit

theorem mk_err {n d p q r : Int} (h : mk n d = (p, q, r)) : ((r == 11) = (d == 0)) ∧ FB p ∧ FB q ∧ (r = 0 → chk p q = 0) := by
  have hb := mk_bd n d
  rw [h] at hb
  simp only at hb
  refine ⟨?_, ⟨by omega, by omega⟩, ⟨by omega, by omega⟩, fun h0 => by subst h0; exact (mk_val h).1⟩
  by_cases h0 : d = 0
  · subst h0
    have : r = 11 := by unfold mk at h; rw [if_pos rfl] at h; simp only [Prod.mk.injEq] at h; exact h.2.2.symm
    subst this; rfl
  · have : r ≠ 11 := by
      intro hr; subst hr
      unfold mk at h; rw [if_neg h0] at h
      split at h
      · simp at h
      · split at h <;> simp at h
    rw [beq_eq_false_iff_ne.2 this, beq_eq_false_iff_ne.2 h0]

theorem blk_below {w w' : World} {g : Nat} {t : TypeId} {cs : Array Value} (h : Blk w g t cs) (hb : Below w.heap.size w w') : Blk w' g t cs := (hb.block g h.lt).trans h

abbrev Z2 : Obj := .cells #[.int .i64 0, .int .i64 0] 23
theorem boxy {w w' : World} (hb : Below (w.alloc Z2).drew.heap.size (w.alloc Z2).drew w') : w'.cell? ⟨w.heap.size, 0, none⟩ = some (.int .i64 0) ∧ w'.cell? ⟨w.heap.size, 1, none⟩ = some (.int .i64 0) ∧ w'.frozen? ⟨w.heap.size, 0, none⟩ = false ∧ w'.frozen? ⟨w.heap.size, 1, none⟩ = false ∧ w.heap.size < w'.heap.size ∧ Blk w' w.heap.size 23 #[.int .i64 0, .int .i64 0] ∧ Below w.heap.size w w' := by
  have h : Blk (w.alloc Z2).drew w.heap.size 23 #[.int .i64 0, .int .i64 0] := Blk.new w 23 #[.int .i64 0, .int .i64 0]
  have h' := blk_below h hb
  exact ⟨h'.cell 0, h'.cell 1, h'.frozen 0, h'.frozen 1, h'.lt, h', (((Below.refl _ _).alloc (Nat.le_refl _) _).drew).trans (hb.mono (by show _ ≤ (w.alloc Z2).heap.size; simp))⟩

theorem opF_fb {an ad bn bd n d p q r : Int} (h : opF an ad bn bd n d = (p, q, r)) : FB p ∧ FB q := by
  unfold opF at h
  split at h
  · have := mk_bd n d
    rw [h] at this
    simp only at this
    exact ⟨⟨by omega, by omega⟩, ⟨by omega, by omega⟩⟩
  · simp only [Prod.mk.injEq] at h
    obtain ⟨rfl, rfl, _⟩ := h
    exact ⟨⟨by omega, by omega⟩, ⟨by omega, by omega⟩⟩

/-- wpStill, not to be unfolded by the way. -/
structure WQ (P : Program) (ops : Array Oper) (w : World) (Q : Act → Prop) (l : List Oper) (a : Act) : Prop where
  out : wpStill P ops w Q l a
theorem WQ.step {P : Program} {ops : Array Oper} {w : World} {Q : Act → Prop} {o : Oper} {rest : List Oper} {a : Act}
    (h : ∀ K : Act → Prop, (∀ a, WQ P ops w Q rest a → K a) → if Region.wanted o (yielded ops a.tmps) = true then o.still P a w K else K (a.put o.dst undef)) : WQ P ops w Q (o :: rest) a :=
  ⟨wpStill_step fun K hK => h K fun a ha => hK a ha.out⟩
theorem WQ.nil {P : Program} {ops : Array Oper} {w : World} {Q : Act → Prop} {a : Act} (h : Q a) : WQ P ops w Q [] a := ⟨wpStill_nil h⟩

/-- A fraction lies in the third place of an array. -/
def Bz (w : World) (b : Nat) (p q : Int) : Prop := w.cell? ⟨b, 4, none⟩ = some (.int .i64 p) ∧ w.cell? ⟨b, 5, none⟩ = some (.int .i64 q) ∧ b < w.heap.size
theorem Bz.below {w w' : World} {b : Nat} {p q : Int} (h : Bz w b p q) (hb : Below w.heap.size w w') : Bz w' b p q :=
  ⟨(hb.cell (p := ⟨b, 4, none⟩) h.2.2).trans h.1, (hb.cell (p := ⟨b, 5, none⟩) h.2.2).trans h.2.1, Nat.lt_of_lt_of_le h.2.2 hb.size⟩

/-- The three fractions as far as they were made. -/
def fl (p0 q0 p1 q1 p2 q2 : Int) : Nat → Array Value
  | 0 => #[.int .i64 0, .int .i64 0, .int .i64 0, .int .i64 0, .int .i64 0, .int .i64 0]
  | 1 => #[.int .i64 p0, .int .i64 q0, .int .i64 0, .int .i64 0, .int .i64 0, .int .i64 0]
  | 2 => #[.int .i64 p0, .int .i64 q0, .int .i64 p1, .int .i64 q1, .int .i64 0, .int .i64 0]
  | _ => #[.int .i64 p0, .int .i64 q0, .int .i64 p1, .int .i64 q1, .int .i64 p2, .int .i64 q2]

set_option maxRecDepth 100000 in
set_option maxHeartbeats 8000000 in
theorem lawFields_w (W : World) (n0 n1 n2 : Int) (f0 : FB n0) (f1 : FB n1) (f2 : FB n2) (d0 d1 d2 : Int) (f3 : FB d0) (f4 : FB d1) (f5 : FB d2) :
    Calls Try.prog 4 #[.agg #[.int .i64 n0, .int .i64 n1, .int .i64 n2], .agg #[.int .i64 d0, .int .i64 d1, .int .i64 d2]] W fun e w' => e = .returned (.bool true) ∧ Below W.heap.size W w' := by
  obtain ⟨p0, q0, r0, m0⟩ : ∃ p q r, Hid (mk n0 d0 = (p, q, r)) := ⟨_, _, _, rfl⟩
  obtain ⟨p1, q1, r1, m1⟩ : ∃ p q r, Hid (mk n1 d1 = (p, q, r)) := ⟨_, _, _, rfl⟩
  obtain ⟨p2, q2, r2, m2⟩ : ∃ p q r, Hid (mk n2 d2 = (p, q, r)) := ⟨_, _, _, rfl⟩
  go_enter Try.func4, Try.ntmps4
  go_wp2_with fail
  obtain ⟨w1, hw1⟩ : ∃ V, ((W.alloc (.cells #[.int .i64 n0, .int .i64 n1, .int .i64 n2] 35)).alloc (.cells #[.int .i64 d0, .int .i64 d1, .int .i64 d2] 35)).alloc (.cells (fl p0 q0 p1 q1 p2 q2 0) 36) = V := ⟨_, rfl⟩
  have b1 : Below W.heap.size W w1 := by rw [← hw1]; exact (((Below.refl _ _).alloc (Nat.le_refl _) _).alloc (by simp) _).alloc (by simp only [World.size_alloc]; omega) _
  have K1 : Blk w1 W.heap.size 35 #[.int .i64 n0, .int .i64 n1, .int .i64 n2] := by rw [← hw1]; exact ((Blk.new _ _ _).alloc _).alloc _
  have K2 : Blk w1 (W.heap.size + 1) 35 #[.int .i64 d0, .int .i64 d1, .int .i64 d2] := by rw [← hw1]; have := (Blk.new (W.alloc (.cells #[.int .i64 n0, .int .i64 n1, .int .i64 n2] 35)) 35 #[.int .i64 d0, .int .i64 d1, .int .i64 d2]).alloc (.cells (fl p0 q0 p1 q1 p2 q2 0) 36); rwa [World.size_alloc] at this
  have K3 : Blk w1 (W.heap.size + 1 + 1) 36 (fl p0 q0 p1 q1 p2 q2 0) := by rw [← hw1]; have := Blk.new ((W.alloc (.cells #[.int .i64 n0, .int .i64 n1, .int .i64 n2] 35)).alloc (.cells #[.int .i64 d0, .int .i64 d1, .int .i64 d2] 35)) 36 (fl p0 q0 p1 q1 p2 q2 0); rwa [World.size_alloc, World.size_alloc] at this
  have hz1 : W.heap.size + 3 ≤ w1.heap.size := by rw [← hw1]; simp only [World.size_alloc]; omega
  simp only [fl] at hw1
  rw [hw1]
  have HB1 := hide b1; have HK1 := hide K1; have HK2 := hide K2; have HK3 := hide K3
  clear b1 K1 K2 K3 hw1
  obtain ⟨E0, P0, Q0, G0⟩ := mk_err m0.out
  obtain ⟨E1, P1, Q1, G1⟩ := mk_err m1.out
  obtain ⟨E2, P2, Q2, G2⟩ := mk_err m2.out
  have HE0 := hide E0; have HE1 := hide E1; have HE2 := hide E2
  have HG0 := hide G0; have HG1 := hide G1; have HG2 := hide G2
  have HF := hide (And.intro f0 (And.intro f1 (And.intro f2 (And.intro f3 (And.intro f4 f5)))))
  have HP := hide (And.intro P0 (And.intro Q0 (And.intro P1 (And.intro Q1 (And.intro P2 Q2)))))
  clear E0 E1 E2 G0 G1 G2 P0 Q0 P1 Q1 P2 Q2 f0 f1 f2 f3 f4 f5
  go_loopw [6, 7, 8] (fun i b e wr => ∃ k : Nat, i = .int .i64 k ∧ k ≤ 3 ∧ W.heap.size + 3 ≤ wr.heap.size ∧ Hid ((1 ≤ k → r0 = 0) ∧ (2 ≤ k → r1 = 0) ∧ (3 ≤ k → r2 = 0)) ∧ Hid (Blk wr W.heap.size 35 #[.int .i64 n0, .int .i64 n1, .int .i64 n2])
    ∧ Hid (Blk wr (W.heap.size + 1) 35 #[.int .i64 d0, .int .i64 d1, .int .i64 d2]) ∧ Hid (Blk wr (W.heap.size + 1 + 1) 36 (fl p0 q0 p1 q1 p2 q2 k)) ∧ Hid (Below W.heap.size W wr)) (fun i _ _ _ => 3 - (intOf i).toNat)
  case atStart => exact ⟨0, rfl, by omega, hz1, hide ⟨by omega, by omega, by omega⟩, HK1, HK2, HK3, HB1⟩
  case round =>
    obtain ⟨k, rfl, hk, hz, hr, hk1, hk2, hk3, hbel⟩ := hrel
    have hsz := hbel.out.size
    clear HB1 HK1 HK2 HK3 hz1
    have l1 : W.heap.size < wr.heap.size := by omega
    have l2 : W.heap.size + 1 < wr.heap.size := by omega
    have l3 : ¬ W.heap.size = wr.heap.size := by omega
    have l4 : ¬ W.heap.size + 1 = wr.heap.size := by omega
    by_cases hlt : k < 3
    · have hrd : ∃ x y p q r : Int, FB x ∧ FB y ∧ Hid (mk x y = (p, q, r)) ∧ wr.cell? ⟨W.heap.size, k, none⟩ = some (.int .i64 x) ∧ wr.cell? ⟨W.heap.size + 1, k, none⟩ = some (.int .i64 y)
          ∧ (∀ V, Blk V (W.heap.size + 1) 35 #[.int .i64 d0, .int .i64 d1, .int .i64 d2] → V.cell? ⟨W.heap.size + 1, k, none⟩ = some (.int .i64 y))
          ∧ ((fl p0 q0 p1 q1 p2 q2 k).setIfInBounds (k * 2) (.int .i64 p)).setIfInBounds (k * 2 + 1) (.int .i64 q) = fl p0 q0 p1 q1 p2 q2 (k + 1) ∧ (r = 0 → (1 ≤ k + 1 → r0 = 0) ∧ (2 ≤ k + 1 → r1 = 0) ∧ (3 ≤ k + 1 → r2 = 0)) := by
        have hrr := hr.out
        have hF := HF.out
        rcases (show k = 0 ∨ k = 1 ∨ k = 2 by omega) with rfl | rfl | rfl
        · exact ⟨n0, d0, p0, q0, r0, hF.1, hF.2.2.2.1, m0, hk1.out.cell 0, hk2.out.cell 0, fun V h => h.cell 0, rfl, fun h => ⟨fun _ => h, by omega, by omega⟩⟩
        · exact ⟨n1, d1, p1, q1, r1, hF.2.1, hF.2.2.2.2.1, m1, hk1.out.cell 1, hk2.out.cell 1, fun V h => h.cell 1, rfl, fun h => ⟨fun _ => hrr.1 (by omega), fun _ => h, by omega⟩⟩
        · exact ⟨n2, d2, p2, q2, r2, hF.2.2.1, hF.2.2.2.2.2, m2, hk1.out.cell 2, hk2.out.cell 2, fun V h => h.cell 2, rfl, fun h => ⟨fun _ => hrr.1 (by omega), fun _ => hrr.2.1 (by omega), fun _ => h⟩⟩
      obtain ⟨x, y, p, q, r, fx, fy, m, c0, c1, hcy, hset, hnx⟩ := hrd
      obtain ⟨hE, fp, fq, hG⟩ := mk_err m.out
      have HSET := hide hset; have HNX := hide hnx; have HCY := hide hcy; have HEE := hide hE; have HGG := hide hG
      have hl3 : (k : Int) < 3 := by omega
      clear hset hnx hcy hE hG HE0 HE1 HE2 HG0 HG1 HG2 m0 m1 m2 HF HP hr
      go_upto_region 5 with fail
      go_cut [7, 8] from 35 to 66 (fun b e wx => e = .int .i64 r ∧ ∃ g, b = .pointer (some ⟨g, 0, none⟩) ∧ wr.heap.size ≤ g ∧ Hid (Blk wx g 23 #[.int .i64 p, .int .i64 q]) ∧ Hid (Below wr.heap.size wr wx))
      case first => as_aux_lemma =>
        --S
        go_region_with (first
          | (go_at_call 12; refine (make_c m (wr.alloc Z2).drew fx fy).mono ?_; rintro e w' ⟨rfl, hb⟩; obtain ⟨o1, o2, o3, o4, o5, o6, o7⟩ := boxy hb)
          | (go_at_call 12; refine (make_c m wr.drew fx fy).mono ?_; rintro e w' ⟨rfl, hb⟩))
        all_goals (go_wp2_with fail; go_meet)
        all_goals first
          | exact ⟨rfl, _, rfl, hb.size, hide (Blk.new w' 23 _), hide (((Below.refl _ _).drew.trans hb).alloc hb.size _)⟩
          | exact ⟨rfl, _, rfl, Nat.le_refl _, hide ((o6.set 0 (.int .i64 p)).set 1 (.int .i64 q)), hide ((o7.setCell (Nat.le_refl _) _).setCell (Nat.le_refl _) _)⟩
        --E
      case rest =>
        obtain ⟨rfl, g, rfl, hg, hbx, hbw⟩ := hcut
        have hk2' := blk_below hk2.out hbw.out
        have hk3' := blk_below hk3.out hbw.out
        have e0 : wc.cell? ⟨g, 0, none⟩ = some (.int .i64 p) := hbx.out.cell 0
        have e1 : wc.cell? ⟨g, 1, none⟩ = some (.int .i64 q) := hbx.out.cell 1
        have e2 : wc.cell? ⟨W.heap.size + 1, k, none⟩ = some (.int .i64 y) := HCY.out wc hk2'
        have HK2' := hide hk2'; have HK3' := hide hk3'
        have hzc : W.heap.size + 3 ≤ wc.heap.size := by have := hbw.out.size; omega
        clear hk2' hk3' c0 c1
        by_cases h0 : r = 0
        · subst h0
          have hck := HGG.out rfl
          have hf0 := HK3'.out.frozen (k * 2)
          have hf1 := HK3'.out.frozen (k * 2 + 1)
          have hl3' := HK3'.out.lt
          obtain ⟨z, z', hz0, hz0'⟩ : ∃ z z', wc.cell? ⟨W.heap.size + 1 + 1, k * 2, none⟩ = some z ∧ wc.cell? ⟨W.heap.size + 1 + 1, k * 2 + 1, none⟩ = some z' := by
            have a1 := HK3'.out.cell (k * 2)
            have a2 := HK3'.out.cell (k * 2 + 1)
            rw [a1, a2]
            rcases (show k = 0 ∨ k = 1 ∨ k = 2 by omega) with rfl | rfl | rfl <;> exact ⟨_, _, rfl, rfl⟩
          have hgn : ¬ g = W.heap.size + 1 + 1 := by omega
          have hgn' : ¬ W.heap.size + 1 + 1 = g := by omega
          go_wp2_with fail
          refine (check_w p q _ fp fq).mono ?_
          rintro e w' ⟨rfl, hb⟩
          rw [hck]
          have r1' := hide (blk_below (((blk_below hk1.out hbw.out).far (p := ⟨W.heap.size + 1 + 1, k * 2, none⟩) (by simp only []; omega) (.int .i64 p)).far (p := ⟨W.heap.size + 1 + 1, k * 2 + 1, none⟩) (by simp only []; omega) (.int .i64 q)) hb)
          have r2' := hide (blk_below ((HK2'.out.far (p := ⟨W.heap.size + 1 + 1, k * 2, none⟩) (by simp only []; omega) (.int .i64 p)).far (p := ⟨W.heap.size + 1 + 1, k * 2 + 1, none⟩) (by simp only []; omega) (.int .i64 q)) hb)
          have hst := (HK3'.out.set (k * 2) (.int .i64 p)).set (k * 2 + 1) (.int .i64 q)
          rw [HSET.out] at hst
          have r3' := hide (blk_below hst hb)
          have hbz := ((hbel.out.trans (hbw.out.mono hsz)).setCell (p := ⟨W.heap.size + 1 + 1, k * 2, none⟩) (by simp only []; omega) (.int .i64 p)).setCell (p := ⟨W.heap.size + 1 + 1, k * 2 + 1, none⟩) (by simp only []; omega) (.int .i64 q)
          have hzz := hbz.size
          have r4' := hide (hbz.trans (hb.mono hzz))
          have hz9 : W.heap.size + 3 ≤ w'.heap.size := by have := hb.size; simp only [World.size_setCell] at this; omega
          clear hst hbz hzz hb hz0 hz0' hf0 hf1 e0 e1 e2 hck
          go_wp2_with fail
          go_roundw
          case rel => exact ⟨k + 1, by go_num, by omega, hz9, hide (HNX.out (by trivial)), r1', r2', r3', r4'⟩
          case measure => simp [intOf]; omega
        · have hne : (r != 0) = true := by simpa using h0
          have he := HEE.out
          go_wp2_with (go_at_call 32; refine (sane_w _).mono ?_; rintro e w' ⟨rfl, hb⟩)
          go_ret
          exact ⟨rfl, back (hbel.out.trans (hbw.out.mono hsz)) hb⟩
    · have hk3e : k = 3 := by omega
      subst hk3e
      obtain ⟨t0, t1, t2⟩ := hr.out
      have hr0 := t0 (by omega)
      have hr1 := t1 (by omega)
      have hr2 := t2 (by omega)
      subst hr0 hr1 hr2
      clear t0 t1 t2 hr
      --TAIL
      have c0 := hk3.out.cell 0
      have c1 := hk3.out.cell 1
      have c2 := hk3.out.cell 2
      have c3 := hk3.out.cell 3
      have hlL := hk3.out.lt
      have c0' : wr.cell? ⟨W.heap.size + 1 + 1, 0, none⟩ = some (.int .i64 p0) := c0
      have c1' : wr.cell? ⟨W.heap.size + 1 + 1, 1, none⟩ = some (.int .i64 q0) := c1
      have c2' : wr.cell? ⟨W.heap.size + 1 + 1, 2, none⟩ = some (.int .i64 p1) := c2
      have c3' : wr.cell? ⟨W.heap.size + 1 + 1, 3, none⟩ = some (.int .i64 q1) := c3
      have Bl : Bz wr (W.heap.size + 1 + 1) p2 q2 := ⟨hk3.out.cell 4, hk3.out.cell 5, hlL⟩
      clear c0 c1 c2 c3
      have hp := HP.out
      have g0 := HG0.out (by trivial)
      have g1 := HG1.out (by trivial)
      have g2 := HG2.out (by trivial)
      obtain ⟨xn, xd, xe, mx⟩ : ∃ p q r, Hid (opF p0 q0 p1 q1 (p0 * q1 + p1 * q0) (q0 * q1) = (p, q, r)) := ⟨_, _, _, rfl⟩
      obtain ⟨pn, pd, pe, mp⟩ : ∃ p q r, Hid (opF p0 q0 p1 q1 (p0 * p1) (q0 * q1) = (p, q, r)) := ⟨_, _, _, rfl⟩
      have fx := opF_fb mx.out
      have fp := opF_fb mp.out
      obtain ⟨sn, sd, se, ms⟩ : ∃ p q r, Hid (opF xn xd p1 q1 (xn * q1 - p1 * xd) (xd * q1) = (p, q, r)) := ⟨_, _, _, rfl⟩
      obtain ⟨kn, kd, ke, mq⟩ : ∃ p q r, Hid (opF pn pd p1 q1 (pn * q1) (pd * p1) = (p, q, r)) := ⟨_, _, _, rfl⟩
      obtain ⟨gn, gd, ge, mg⟩ : ∃ p q r, Hid (opF xn xd p2 q2 (xn * q2 + p2 * xd) (xd * q2) = (p, q, r)) := ⟨_, _, _, rfl⟩
      obtain ⟨tn, td, te, mt⟩ : ∃ p q r, Hid (opF p1 q1 p2 q2 (p1 * q2 + p2 * q1) (q1 * q2) = (p, q, r)) := ⟨_, _, _, rfl⟩
      have ft := opF_fb mt.out
      obtain ⟨un, ud, ue, mu⟩ : ∃ p q r, Hid (opF p0 q0 tn td (p0 * td + tn * q0) (q0 * td) = (p, q, r)) := ⟨_, _, _, rfl⟩
      have R1 : Hid (xe = 0 → sn = p0 ∧ sd = q0 ∧ se = 0) := by
        intro h; subst h; have := sub_back mx.out; rw [ms.out] at this; simpa using this
      have R2 : Hid (xe = 0 → cmpF xn xd p0 q0 = cmpF p1 q1 0 1) := by
        intro h; subst h; exact cmp_back mx.out
      have R3 : Hid (pe = 0 → p1 ≠ 0 → kn = p0 ∧ kd = q0 ∧ ke = 0) := by
        intro h h1; subst h; have := div_back mp.out h1; rw [mq.out] at this; simpa using this
      have R4 : Hid (xe = 0 → ge = 0 → te = 0 → un = gn ∧ ud = gd ∧ ue = 0) := by
        intro h h1 h2; subst h h1 h2; have := add_assoc' mx.out mg.out mt.out; rw [mu.out] at this; simpa using this
      have C1 := hide (fun V : World => add_c mx V hp.1 hp.2.1 hp.2.2.1 hp.2.2.2.1)
      have C2 := hide (fun V : World => add_c (an := p1) (ad := q1) (bn := p0) (bd := q0) (p := xn) (q := xd) (r := xe) (hide ((add_comm' p0 q0 p1 q1).trans mx.out)) V hp.2.2.1 hp.2.2.2.1 hp.1 hp.2.1)
      have C3 := hide (fun V : World => mul_c mp V hp.1 hp.2.1 hp.2.2.1 hp.2.2.2.1)
      have C4 := hide (fun V : World => mul_c (an := p1) (ad := q1) (bn := p0) (bd := q0) (p := pn) (q := pd) (r := pe) (hide ((mul_comm' p0 q0 p1 q1).trans mp.out)) V hp.2.2.1 hp.2.2.2.1 hp.1 hp.2.1)
      have C5 := hide (fun V : World => sub_c ms V fx.1 fx.2 hp.2.2.1 hp.2.2.2.1)
      have C6 := hide (fun V : World => cmp_w xn xd p0 q0 V fx.1 fx.2 hp.1 hp.2.1)
      have C7 := hide (fun V : World => cmp_w p1 q1 0 1 V hp.2.2.1 hp.2.2.2.1 ⟨by omega, by omega⟩ ⟨by omega, by omega⟩)
      have C8 := hide (fun V : World => div_c mq V fp.1 fp.2 hp.2.2.1 hp.2.2.2.1)
      have C9 := hide (fun V : World => add_c mg V fx.1 fx.2 hp.2.2.2.2.1 hp.2.2.2.2.2)
      have C10 := hide (fun V : World => add_c mt V hp.2.2.1 hp.2.2.2.1 hp.2.2.2.2.1 hp.2.2.2.2.2)
      have C11 := hide (fun V : World => add_c mu V hp.1 hp.2.1 ft.1 ft.2)
      have F1 := fun V : World => floor_w p0 q0 V hp.1 hp.2.1
      have F2 := fun V : World => ceil_w p0 q0 V hp.1 hp.2.1
      have F3 := fun V : World => round_w p0 q0 V hp.1 hp.2.1
      simp only [g0, if_true] at F1 F2 F3
      have C12 := hide F1
      have C13 := hide F2
      have C14 := hide F3
      have HB0 := hide (chk_bd g0)
      clear F1 F2 F3 g0 g1 g2 hp fx fp ft mx mp ms mq mg mt mu HP HG0 HG1 HG2 HE0 HE1 HE2 HF m0 m1 m2
      have hz3 : W.heap.size + 1 + 1 < wr.heap.size := hlL
      have hBl := hide Bl
      clear Bl hk1 hk2 hk3 l1 l2 l3 l4 hlt hk
      go_wp2_with fail
      refine (C1.out _).mono ?_
      rintro e w1 ⟨rfl, hb⟩
      have k1 := back (((hbel.out).alloc hsz (.cells #[.int .i64 p0, .int .i64 q0] 23)).alloc (by simp only [World.size_alloc]; omega) (.cells #[.int .i64 p1, .int .i64 q1] 23)) hb
      have Ba_0 := hide (((Bx.new wr p0 q0 23).below ((Below.refl _ _).alloc (Nat.le_refl _) (.cells #[.int .i64 p1, .int .i64 q1] 23))).below hb)
      have Bb_0 : Hid (Bx w1 (wr.heap.size + 1) p1 q1) := by have := Bx.new (wr.alloc (.cells #[.int .i64 p0, .int .i64 q0] 23)) p1 q1 23; rw [World.size_alloc] at this; exact this.below hb
      have Bl_0 := hide (((hBl.out.below ((Below.refl _ _).alloc (Nat.le_refl _) (.cells #[.int .i64 p0, .int .i64 q0] 23))).below ((Below.refl _ _).alloc (Nat.le_refl _) (.cells #[.int .i64 p1, .int .i64 q1] 23))).below hb)
      clear hb hBl hbel hsz c0' c1' c2' c3' hlL hz3
      obtain ⟨ua0_1, ua1_1, ua2_1⟩ := Ba_0.out
      obtain ⟨ub0_1, ub1_1, ub2_1⟩ := Bb_0.out
      go_wp2_with fail
      refine (C2.out _).mono ?_
      rintro e w2 ⟨rfl, hb⟩
      clear ua0_1 ua1_1 ua2_1 ub0_1 ub1_1 ub2_1
      have k2 := back (k1.alloc k1.size _) hb
      clear k1
      have Ba_1 := hide ((Ba_0.out.below ((Below.refl _ _).alloc (Nat.le_refl _) _)).below hb)
      clear Ba_0
      have Bb_1 := hide ((Bb_0.out.below ((Below.refl _ _).alloc (Nat.le_refl _) _)).below hb)
      clear Bb_0
      have Bl_1 := hide ((Bl_0.out.below ((Below.refl _ _).alloc (Nat.le_refl _) _)).below hb)
      clear Bl_0
      have Bx_0 := hide ((Bx.new w1 xn xd 23).below hb)
      clear hb
      obtain ⟨ua0_2, ua1_2, ua2_2⟩ := Ba_1.out
      obtain ⟨ub0_2, ub1_2, ub2_2⟩ := Bb_1.out
      go_wp2_with fail
      refine (C3.out _).mono ?_
      rintro e w3 ⟨rfl, hb⟩
      clear ua0_2 ua1_2 ua2_2 ub0_2 ub1_2 ub2_2
      have k3 := back (k2.alloc k2.size _) hb
      clear k2
      have Ba_2 := hide ((Ba_1.out.below ((Below.refl _ _).alloc (Nat.le_refl _) _)).below hb)
      clear Ba_1
      have Bb_2 := hide ((Bb_1.out.below ((Below.refl _ _).alloc (Nat.le_refl _) _)).below hb)
      clear Bb_1
      have Bl_2 := hide ((Bl_1.out.below ((Below.refl _ _).alloc (Nat.le_refl _) _)).below hb)
      clear Bl_1
      have Bx_1 := hide ((Bx_0.out.below ((Below.refl _ _).alloc (Nat.le_refl _) _)).below hb)
      clear Bx_0
      have By_0 := hide ((Bx.new w2 xn xd 23).below hb)
      clear hb
      obtain ⟨ua0_3, ua1_3, ua2_3⟩ := Ba_2.out
      obtain ⟨ub0_3, ub1_3, ub2_3⟩ := Bb_2.out
      go_wp2_with fail
      refine (C4.out _).mono ?_
      rintro e w4 ⟨rfl, hb⟩
      clear ua0_3 ua1_3 ua2_3 ub0_3 ub1_3 ub2_3
      have k4 := back (k3.alloc k3.size _) hb
      clear k3
      have Ba_3 := hide ((Ba_2.out.below ((Below.refl _ _).alloc (Nat.le_refl _) _)).below hb)
      clear Ba_2
      have Bb_3 := hide ((Bb_2.out.below ((Below.refl _ _).alloc (Nat.le_refl _) _)).below hb)
      clear Bb_2
      have Bl_3 := hide ((Bl_2.out.below ((Below.refl _ _).alloc (Nat.le_refl _) _)).below hb)
      clear Bl_2
      have Bx_2 := hide ((Bx_1.out.below ((Below.refl _ _).alloc (Nat.le_refl _) _)).below hb)
      clear Bx_1
      have By_1 := hide ((By_0.out.below ((Below.refl _ _).alloc (Nat.le_refl _) _)).below hb)
      clear By_0
      have Bp_0 := hide ((Bx.new w3 pn pd 23).below hb)
      clear hb
      obtain ⟨ub0_4, ub1_4, ub2_4⟩ := Bb_3.out
      obtain ⟨ux0_4, ux1_4, ux2_4⟩ := Bx_2.out
      obtain ⟨uy0_4, uy1_4, uy2_4⟩ := By_1.out
      obtain ⟨up0_4, up1_4, up2_4⟩ := Bp_0.out
      go_wp2_with fail
      refine (C5.out _).mono ?_
      rintro e w5 ⟨rfl, hb⟩
      clear ub0_4 ub1_4 ub2_4 ux0_4 ux1_4 ux2_4 uy0_4 uy1_4 uy2_4 up0_4 up1_4 up2_4
      have k5 := back (k4.alloc k4.size _) hb
      clear k4
      have Ba_4 := hide ((Ba_3.out.below ((Below.refl _ _).alloc (Nat.le_refl _) _)).below hb)
      clear Ba_3
      have Bb_4 := hide ((Bb_3.out.below ((Below.refl _ _).alloc (Nat.le_refl _) _)).below hb)
      clear Bb_3
      have Bl_4 := hide ((Bl_3.out.below ((Below.refl _ _).alloc (Nat.le_refl _) _)).below hb)
      clear Bl_3
      have Bx_3 := hide ((Bx_2.out.below ((Below.refl _ _).alloc (Nat.le_refl _) _)).below hb)
      clear Bx_2
      have By_2 := hide ((By_1.out.below ((Below.refl _ _).alloc (Nat.le_refl _) _)).below hb)
      clear By_1
      have Bp_1 := hide ((Bp_0.out.below ((Below.refl _ _).alloc (Nat.le_refl _) _)).below hb)
      clear Bp_0
      have Bv_0 := hide ((Bx.new w4 pn pd 23).below hb)
      clear By_2
      clear Bv_0
      clear hb
      go_upto_region 20 with fail
      obtain ⟨wA, hwA⟩ : ∃ V, w5.alloc (.cells #[.int .i64 sn, .int .i64 sd] 23) = V := ⟨_, rfl⟩
      have kwA := hide (k5.alloc k5.size (.cells #[.int .i64 sn, .int .i64 sd] 23))
      rw [hwA] at kwA
      clear k5
      have Ba_5 := hide (Ba_4.out.below ((Below.refl _ _).alloc (Nat.le_refl _) (.cells #[.int .i64 sn, .int .i64 sd] 23)))
      rw [hwA] at Ba_5
      clear Ba_4
      have Bb_5 := hide (Bb_4.out.below ((Below.refl _ _).alloc (Nat.le_refl _) (.cells #[.int .i64 sn, .int .i64 sd] 23)))
      rw [hwA] at Bb_5
      clear Bb_4
      have Bl_5 := hide (Bl_4.out.below ((Below.refl _ _).alloc (Nat.le_refl _) (.cells #[.int .i64 sn, .int .i64 sd] 23)))
      rw [hwA] at Bl_5
      clear Bl_4
      have Bx_4 := hide (Bx_3.out.below ((Below.refl _ _).alloc (Nat.le_refl _) (.cells #[.int .i64 sn, .int .i64 sd] 23)))
      rw [hwA] at Bx_4
      clear Bx_3
      have Bp_2 := hide (Bp_1.out.below ((Below.refl _ _).alloc (Nat.le_refl _) (.cells #[.int .i64 sn, .int .i64 sd] 23)))
      rw [hwA] at Bp_2
      clear Bp_1
      have Bs_0 := hide (Bx.new w5 sn sd 23)
      rw [hwA] at Bs_0
      rw [hwA]
      clear hwA
      have kp : ∀ V : World, Below wA.heap.size wA V → (V.cell? ⟨w5.heap.size, 0, none⟩ = some (.int .i64 sn) ∧ V.cell? ⟨w5.heap.size, 1, none⟩ = some (.int .i64 sd) ∧ V.cell? ⟨wr.heap.size, 0, none⟩ = some (.int .i64 p0) ∧ V.cell? ⟨wr.heap.size, 1, none⟩ = some (.int .i64 q0) ∧ V.cell? ⟨w1.heap.size, 0, none⟩ = some (.int .i64 xn) ∧ V.cell? ⟨w1.heap.size, 1, none⟩ = some (.int .i64 xd) ∧ V.cell? ⟨wr.heap.size + 1, 0, none⟩ = some (.int .i64 p1) ∧ V.cell? ⟨wr.heap.size + 1, 1, none⟩ = some (.int .i64 q1) ∧ Below wA.heap.size wA V) := fun V hb => ⟨(Bs_0.out.below hb).1, (Bs_0.out.below hb).2.1, (Ba_5.out.below hb).1, (Ba_5.out.below hb).2.1, (Bx_4.out.below hb).1, (Bx_4.out.below hb).2.1, (Bb_5.out.below hb).1, (Bb_5.out.below hb).2.1, hb⟩
      have KP := hide kp
      clear kp
      go_cut [138] from 119 (fun v wx => v = .bool false ∧ Hid (Below wA.heap.size wA wx))
      case first => as_aux_lemma =>
        by_cases hx : xe = 0
        · obtain ⟨e1, e2, e3⟩ := R1.out hx
          have hcm := R2.out hx
          have C6' := C6.out
          have C7' := C7.out
          rw [hcm] at C6'
          obtain ⟨cm, hc⟩ : ∃ z, cmpF p1 q1 0 1 = z := ⟨_, rfl⟩
          rw [hc] at C6' C7'
          have D6 := hide C6'
          have D7 := hide C7'
          have ST := hide (KP.out wA (Below.refl _ _))
          clear hc hcm C6' C7'
          have e1' := e1.symm; have e2' := e2.symm
          clear e1 e2
          subst e1' e2' e3 hx
          go_wp2_with fail
          go_region_held3 (fun V => V.cell? ⟨w5.heap.size, 0, none⟩ = some (.int .i64 p0) ∧ V.cell? ⟨w5.heap.size, 1, none⟩ = some (.int .i64 q0) ∧ V.cell? ⟨wr.heap.size, 0, none⟩ = some (.int .i64 p0) ∧ V.cell? ⟨wr.heap.size, 1, none⟩ = some (.int .i64 q0) ∧ V.cell? ⟨w1.heap.size, 0, none⟩ = some (.int .i64 xn) ∧ V.cell? ⟨w1.heap.size, 1, none⟩ = some (.int .i64 xd) ∧ V.cell? ⟨wr.heap.size + 1, 0, none⟩ = some (.int .i64 p1) ∧ V.cell? ⟨wr.heap.size + 1, 1, none⟩ = some (.int .i64 q1) ∧ Below wA.heap.size wA V) (first | exact ST.out | assumption | (refine KP.out _ ?_; first | exact below_drewN (Below.refl _ _) 1 | assumption | exact back (show _ ∧ _ ∧ _ ∧ _ ∧ _ ∧ _ ∧ _ ∧ _ ∧ Below wA.heap.size wA _ by assumption).2.2.2.2.2.2.2.2 (by assumption)))
            (first
              | (go_at_call 30; with_reducible refine (D6.out _).mono ?_; rintro e w' ⟨rfl, hb⟩)
              | (go_at_call 30; with_reducible refine (D7.out _).mono ?_; rintro e w' ⟨rfl, hb⟩))
          go_wp2_with fail
          go_meet
          exact ⟨rfl, hide (show _ ∧ _ ∧ _ ∧ _ ∧ _ ∧ _ ∧ _ ∧ _ ∧ Below wA.heap.size wA _ by assumption).2.2.2.2.2.2.2.2⟩
        · have hxb : (xe == 0) = false := by simpa using hx
          clear hx KP
          go_wp2_with fail
          refine wp_region_still_tail 19 (by kernel_rfl) (by kernel_rfl) ?_
          simp only [List.take_succ_cons, List.take_zero, List.drop_succ_cons, List.drop_zero]
          refine WQ.out ?_
          iterate 19 (refine WQ.step (fun K hK => ?_); have HK := hide hK; clear hK; go_simp; refine HK.out _ ?_; clear HK K)
          refine WQ.nil ?_
          go_wp2_with fail
          go_meet
          exact ⟨rfl, hide (below_drewN (Below.refl _ _) 1)⟩
      case rest => as_aux_lemma =>
      obtain ⟨rfl, hbc⟩ := hcut
      clear KP R1 R2 C6 C7
      clear Bs_0
      have Ba_6 := hide (Ba_5.out.below hbc.out)
      clear Ba_5
      have Bb_6 := hide (Bb_5.out.below hbc.out)
      clear Bb_5
      have Bl_6 := hide (Bl_5.out.below hbc.out)
      clear Bl_5
      have Bx_5 := hide (Bx_4.out.below hbc.out)
      clear Bx_4
      have Bp_3 := hide (Bp_2.out.below hbc.out)
      clear Bp_2
      have k6 := back kwA.out hbc.out
      clear kwA hbc
      obtain ⟨up0_c, up1_c, up2_c⟩ := Bp_3.out
      obtain ⟨ub0_c, ub1_c, ub2_c⟩ := Bb_6.out
      go_wp2_with fail
      refine (C8.out _).mono ?_
      rintro e w7 ⟨rfl, hb⟩
      clear up0_c up1_c up2_c ub0_c ub1_c ub2_c
      have k7 := back k6 hb
      clear k6
      have Ba_7 := hide (Ba_6.out.below hb)
      clear Ba_6
      have Bb_7 := hide (Bb_6.out.below hb)
      clear Bb_6
      have Bl_7 := hide (Bl_6.out.below hb)
      clear Bl_6
      have Bx_6 := hide (Bx_5.out.below hb)
      clear Bx_5
      have Bp_4 := hide (Bp_3.out.below hb)
      clear Bp_3
      clear Bp_4
      clear hb
      go_upto_region 23 with fail
      obtain ⟨wB, hwB⟩ : ∃ V, w7.alloc (.cells #[.int .i64 kn, .int .i64 kd] 23) = V := ⟨_, rfl⟩
      have kwB := hide (k7.alloc k7.size (.cells #[.int .i64 kn, .int .i64 kd] 23))
      rw [hwB] at kwB
      clear k7
      have Ba_8 := hide (Ba_7.out.below ((Below.refl _ _).alloc (Nat.le_refl _) (.cells #[.int .i64 kn, .int .i64 kd] 23)))
      rw [hwB] at Ba_8
      clear Ba_7
      have Bb_8 := hide (Bb_7.out.below ((Below.refl _ _).alloc (Nat.le_refl _) (.cells #[.int .i64 kn, .int .i64 kd] 23)))
      rw [hwB] at Bb_8
      clear Bb_7
      have Bl_8 := hide (Bl_7.out.below ((Below.refl _ _).alloc (Nat.le_refl _) (.cells #[.int .i64 kn, .int .i64 kd] 23)))
      rw [hwB] at Bl_8
      clear Bl_7
      have Bx_7 := hide (Bx_6.out.below ((Below.refl _ _).alloc (Nat.le_refl _) (.cells #[.int .i64 kn, .int .i64 kd] 23)))
      rw [hwB] at Bx_7
      clear Bx_6
      have Bk_0 := hide (Bx.new w7 kn kd 23)
      rw [hwB] at Bk_0
      rw [hwB]
      clear hwB
      obtain ⟨ub0_B, ub1_B, ub2_B⟩ := Bb_8.out
      obtain ⟨uk0_B, uk1_B, uk2_B⟩ := Bk_0.out
      obtain ⟨ua0_B, ua1_B, ua2_B⟩ := Ba_8.out
      go_cut [160] from 145 (fun v wx => v = .bool false ∧ wx = wB)
      case first => as_aux_lemma =>
        by_cases hx : pe = 0
        · by_cases hy : p1 = 0
          · have hyb : (p1 != 0) = false := by simpa using hy
            have hxb : (pe == 0) = true := by simpa using hx
            clear hx hy
            go_wp2_with fail
            go_meet
            exact ⟨rfl, rfl⟩
          · obtain ⟨e1, e2, e3⟩ := R3.out hx hy
            have e1' := e1.symm; have e2' := e2.symm; have e3' := e3.symm
            clear e1 e2 e3
            have hyb : (p1 != 0) = true := by simpa using hy
            have hxb : (pe == 0) = true := by simpa using hx
            clear hx hy
            subst e1' e2' e3'
            go_wp2_with fail
            go_meet
            exact ⟨rfl, rfl⟩
        · have hxb : (pe == 0) = false := by simpa using hx
          clear hx
          go_wp2_with fail
          go_meet
          exact ⟨rfl, rfl⟩
      case rest => as_aux_lemma =>
      obtain ⟨rfl, rfl⟩ := hcut
      clear ub0_B ub1_B ub2_B uk0_B uk1_B uk2_B ua0_B ua1_B ua2_B
      clear R3 C8 Bk_0
      have k8 := kwB.out
      clear kwB
      obtain ⟨ux0_D, ux1_D, ux2_D⟩ := Bx_7.out
      obtain ⟨ul0_D, ul1_D, ul2_D⟩ := Bl_8.out
      go_wp2_with fail
      refine (C9.out _).mono ?_
      rintro e w9 ⟨rfl, hb⟩
      clear ux0_D ux1_D ux2_D ul0_D ul1_D ul2_D
      have k9 := back k8 hb
      clear k8
      have Ba_9 := hide (Ba_8.out.below hb)
      clear Ba_8
      have Bb_9 := hide (Bb_8.out.below hb)
      clear Bb_8
      have Bl_9 := hide (Bl_8.out.below hb)
      clear Bl_8
      have Bx_8 := hide (Bx_7.out.below hb)
      clear Bx_7
      clear Bx_8
      clear hb
      obtain ⟨ub0_9, ub1_9, ub2_9⟩ := Bb_9.out
      obtain ⟨ul0_9, ul1_9, ul2_9⟩ := Bl_9.out
      go_wp2_with fail
      refine (C10.out _).mono ?_
      rintro e w10 ⟨rfl, hb⟩
      clear ub0_9 ub1_9 ub2_9 ul0_9 ul1_9 ul2_9
      have k10 := back (k9.alloc k9.size _) hb
      clear k9
      have Ba_10 := hide ((Ba_9.out.below ((Below.refl _ _).alloc (Nat.le_refl _) _)).below hb)
      clear Ba_9
      have Bb_10 := hide ((Bb_9.out.below ((Below.refl _ _).alloc (Nat.le_refl _) _)).below hb)
      clear Bb_9
      have Bl_10 := hide ((Bl_9.out.below ((Below.refl _ _).alloc (Nat.le_refl _) _)).below hb)
      clear Bl_9
      have Bg_0 := hide ((Bx.new w9 gn gd 23).below hb)
      clear Bl_10
      clear Bb_10
      clear hb
      obtain ⟨ua0_E, ua1_E, ua2_E⟩ := Ba_10.out
      go_wp2_with fail
      refine (C11.out _).mono ?_
      rintro e w11 ⟨rfl, hb⟩
      clear ua0_E ua1_E ua2_E
      have k11 := back (k10.alloc k10.size _) hb
      clear k10
      have Ba_11 := hide ((Ba_10.out.below ((Below.refl _ _).alloc (Nat.le_refl _) _)).below hb)
      clear Ba_10
      have Bg_1 := hide ((Bg_0.out.below ((Below.refl _ _).alloc (Nat.le_refl _) _)).below hb)
      clear Bg_0
      have Bt_0 := hide ((Bx.new w10 tn td 23).below hb)
      clear Bt_0
      clear hb
      go_upto_region 28 with fail
      obtain ⟨wC, hwC⟩ : ∃ V, w11.alloc (.cells #[.int .i64 un, .int .i64 ud] 23) = V := ⟨_, rfl⟩
      have kwC := hide (k11.alloc k11.size (.cells #[.int .i64 un, .int .i64 ud] 23))
      rw [hwC] at kwC
      clear k11
      have Ba_12 := hide (Ba_11.out.below ((Below.refl _ _).alloc (Nat.le_refl _) (.cells #[.int .i64 un, .int .i64 ud] 23)))
      rw [hwC] at Ba_12
      clear Ba_11
      have Bg_2 := hide (Bg_1.out.below ((Below.refl _ _).alloc (Nat.le_refl _) (.cells #[.int .i64 un, .int .i64 ud] 23)))
      rw [hwC] at Bg_2
      clear Bg_1
      have Bu_0 := hide (Bx.new w11 un ud 23)
      rw [hwC] at Bu_0
      rw [hwC]
      clear hwC
      obtain ⟨ug0_C, ug1_C, ug2_C⟩ := Bg_2.out
      obtain ⟨uu0_C, uu1_C, uu2_C⟩ := Bu_0.out
      go_cut [199] from 181 (fun v wx => v = .bool false ∧ wx = wC)
      case first => as_aux_lemma =>
        by_cases hxe : xe = 0
        · have bx1 : (xe == 0) = true := by simpa using hxe
          by_cases hge : ge = 0
          · have bx2 : (ge == 0) = true := by simpa using hge
            by_cases hte : te = 0
            · have bx3 : (te == 0) = true := by simpa using hte
              obtain ⟨e1, e2, e3⟩ := R4.out hxe hge hte
              clear hxe hge hte
              subst e1 e2 e3
              go_wp2_with fail
              go_meet
              exact ⟨rfl, rfl⟩
            · have bx3 : (te == 0) = false := by simpa using hte
              clear hxe hge hte
              go_wp2_with fail
              go_meet
              exact ⟨rfl, rfl⟩
          · have bx2 : (ge == 0) = false := by simpa using hge
            clear hxe hge
            go_wp2_with fail
            go_meet
            exact ⟨rfl, rfl⟩
        · have bx1 : (xe == 0) = false := by simpa using hxe
          clear hxe
          go_wp2_with fail
          go_meet
          exact ⟨rfl, rfl⟩
      case rest => as_aux_lemma =>
      obtain ⟨rfl, rfl⟩ := hcut
      clear ug0_C ug1_C ug2_C uu0_C uu1_C uu2_C
      clear R4 C9 C10 C11 Bg_2 Bu_0
      have k11 := kwC.out
      clear kwC
      obtain ⟨hb1, hb2, hb3, hb4⟩ := HB0.out
      have hnear := near p0 q0 hb3
      have bl1 := flo_bd (n := p0) (d := q0) (by omega) (by omega) (by omega)
      have bl2 := flo_bd (n := -p0) (d := q0) (by omega) (by omega) (by omega)
      have bl3 := flo_bd (n := 2 * p0 + q0) (d := 2 * q0) (by omega) (by omega) (by omega)
      have D12 := C12.out; have D13 := C13.out; have D14 := C14.out
      obtain ⟨lo, hlo⟩ : ∃ z, flo p0 q0 = z := ⟨_, rfl⟩
      obtain ⟨hi, hhi⟩ : ∃ z, -flo (-p0) q0 = z := ⟨_, rfl⟩
      obtain ⟨mid, hmid⟩ : ∃ z, flo (2 * p0 + q0) (2 * q0) = z := ⟨_, rfl⟩
      have bl2' : -5000000000 ≤ hi ∧ hi ≤ 5000000000 := by omega
      rw [hlo] at D12 bl1 hnear
      rw [hhi] at D13 hnear
      rw [hmid] at D14 bl3 hnear
      clear bl2 hlo hhi hmid C12 C13 C14 HB0
      obtain ⟨⟨ha1, ha2⟩, ⟨ha3, ha4⟩, ha5, ha6, ha7⟩ := hnear
      have x1 : (lo + 1) * q0 = lo * q0 + q0 := by rw [Int.add_mul, Int.one_mul]
      have x2 : (hi - 1) * q0 = hi * q0 - q0 := by rw [Int.sub_mul, Int.one_mul]
      obtain ⟨m1, hm1⟩ : ∃ z, lo * q0 = z := ⟨_, rfl⟩
      obtain ⟨m2, hm2⟩ : ∃ z, (lo + 1) * q0 = z := ⟨_, rfl⟩
      obtain ⟨m3, hm3⟩ : ∃ z, hi * q0 = z := ⟨_, rfl⟩
      obtain ⟨m4, hm4⟩ : ∃ z, (hi - 1) * q0 = z := ⟨_, rfl⟩
      obtain ⟨m5, hm5⟩ : ∃ z, mid * q0 = z := ⟨_, rfl⟩
      rw [hm1] at ha1 x1
      rw [hm2] at ha2 x1
      rw [hm3] at ha3 x2
      rw [hm4] at ha4 x2
      rw [hm5] at ha6 ha7
      have y1 : IntKind.i64.wrap m1 = m1 := IntWalk.i64_in _ (by omega)
      have y2 : IntKind.i64.wrap m2 = m2 := IntWalk.i64_in _ (by omega)
      have y3 : IntKind.i64.wrap m3 = m3 := IntWalk.i64_in _ (by omega)
      have y4 : IntKind.i64.wrap m4 = m4 := IntWalk.i64_in _ (by omega)
      have y5 : IntKind.i64.wrap m5 = m5 := IntWalk.i64_in _ (by omega)
      have y6 : IntKind.i64.wrap (lo + 1) = lo + 1 := IntWalk.i64_in _ (by omega)
      have y7 : IntKind.i64.wrap (hi - 1) = hi - 1 := IntWalk.i64_in _ (by omega)
      have y8 : IntKind.i64.wrap (p0 - m5) = p0 - m5 := IntWalk.i64_in _ (by omega)
      have y9 : IntKind.i64.wrap (m5 - p0) = m5 - p0 := IntWalk.i64_in _ (by omega)
      have y10 : IntKind.i64.wrap (2 * (p0 - m5)) = 2 * (p0 - m5) := IntWalk.i64_in _ (by omega)
      have y11 : IntKind.i64.wrap (2 * (m5 - p0)) = 2 * (m5 - p0) := IntWalk.i64_in _ (by omega)
      have v1 : ¬ p0 < m1 := by omega
      have v2 : ¬ m2 ≤ p0 := by omega
      have v3 : ¬ m3 < p0 := by omega
      have v4 : ¬ p0 ≤ m4 := by omega
      clear x1 x2 ha1 ha2 ha3 ha4 bl1 bl3 bl2' hb1 hb2 hb3 hb4
      have E12 := hide D12; have E13 := hide D13; have E14 := hide D14
      clear D12 D13 D14
      have hmm : (mid == lo || mid == hi) = true := by rcases ha5 with h | h <;> simp [h]
      obtain ⟨ua0_F, ua1_F, ua2_F⟩ := Ba_12.out
      go_wp2_with fail
      refine (E12.out _).mono ?_
      rintro e w12 ⟨rfl, hb⟩
      clear ua0_F ua1_F ua2_F
      have k12 := back k11 hb
      clear k11
      have Ba_13 := hide (Ba_12.out.below hb)
      clear Ba_12
      clear hb
      obtain ⟨ua0_12, ua1_12, ua2_12⟩ := Ba_13.out
      go_wp2_with fail
      refine (E13.out _).mono ?_
      rintro e w13 ⟨rfl, hb⟩
      clear ua0_12 ua1_12 ua2_12
      have k13 := back k12 hb
      clear k12
      have Ba_14 := hide (Ba_13.out.below hb)
      clear Ba_13
      clear hb
      obtain ⟨ua0_13, ua1_13, ua2_13⟩ := Ba_14.out
      go_wp2_with fail
      refine (E14.out _).mono ?_
      rintro e w14 ⟨rfl, hb⟩
      clear ua0_13 ua1_13 ua2_13
      have k14 := back k13 hb
      clear k13
      have Ba_15 := hide (Ba_14.out.below hb)
      clear Ba_14
      clear hb
      obtain ⟨ua0_14, ua1_14, ua2_14⟩ := Ba_15.out
      by_cases hml : mid = lo
      · as_aux_lemma =>
        have hE : (mid == lo) = true := by simpa using hml
        clear hml ha5 hmm
        go_wp2_with (go_at_call 32; refine (sane_w _).mono ?_; rintro e w' ⟨rfl, hbs⟩)
        go_ret
        exact ⟨rfl, back k14 hbs⟩
      · as_aux_lemma =>
        have hE : (mid == lo) = false := by simpa using hml
        have hE2 : (mid == hi) = true := by rcases ha5 with h | h; exact absurd h hml; simpa using h
        clear hml ha5 hmm
        go_wp2_with (go_at_call 32; refine (sane_w _).mono ?_; rintro e w' ⟨rfl, hbs⟩)
        go_ret
        exact ⟨rfl, back k14 hbs⟩
      --END
end Go.Proofs.Ytlpoenoijmifdaa
