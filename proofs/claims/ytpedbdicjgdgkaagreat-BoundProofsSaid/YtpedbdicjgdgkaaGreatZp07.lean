import Derived.Test.YtpedbdicjgdgkaaGreatZp06
import Derived.Deep.RegionHeld3
set_option linter.unusedVariables false
set_option linter.unusedSimpArgs false
/- What a proof is in the system without some sources: the reference's side. -/
namespace Go.Proofs.YtpedbdicjgdgkaaGreat
open Go Go.RowKit

/-- The place of a limit among those that stay. -/
def plc (ls : List Lm) (ys : List Int) (i : Nat) : Nat := (wo ys (ls.take i)).length
def cru (ls : List Lm) (ys : List Int) (u : Us) : Us := ⟨(plc ls ys u.l.toNat : Nat), u.t⟩
def crS (ls : List Lm) (ys : List Int) (us : List Us) : Bool := us.all fun u => !decide ((lmI ls u.l).y ∈ ys)
def crE (many : Int) (ls : List Lm) (ws : List Int) (B : Int) (us : List Us) (ys : List Int) : Int := if ckP many ls ws B us = 0 then (if crS ls ys us = true then 0 else 3) else ckP many ls ws B us
def crB (many : Int) (ls : List Lm) (ws : List Int) (B : Int) (us : List Us) (ys : List Int) : Int := if ckP many ls ws B us = 0 then (if crS ls ys us = true then B else 0) else 0
def crV (many : Int) (ls : List Lm) (ws : List Int) (B : Int) (us : List Us) (ys : List Int) : List Us := if ckP many ls ws B us = 0 then (if crS ls ys us = true then us.map (cru ls ys) else []) else []
theorem plc_le (ls : List Lm) (ys : List Int) (i : Nat) : plc ls ys i ≤ i := by
  have := wo_len ys (ls.take i)
  rw [List.length_take] at this
  unfold plc; omega
theorem plc_zero (ls : List Lm) (ys : List Int) : plc ls ys 0 = 0 := by have := plc_le ls ys 0; omega
theorem plc_in (ls : List Lm) (ys : List Int) (k : Nat) (hk : k < ls.length) (l : Lm) (hl : lmAt ls k = l) (h : l.y ∈ ys) : plc ls ys (k + 1) = plc ls ys k := by
  unfold plc; rw [wo_take ys ls k hk l hl, if_pos h, List.append_nil]
theorem plc_out (ls : List Lm) (ys : List Int) (k : Nat) (hk : k < ls.length) (l : Lm) (hl : lmAt ls k = l) (h : l.y ∉ ys) : plc ls ys (k + 1) = plc ls ys k + 1 := by
  unfold plc; rw [wo_take ys ls k hk l hl, if_neg h, List.length_append]; rfl
theorem uok_mem (m : Int) : ∀ (us : List Us) (b a : Int), -1 ≤ b → uok m b a us = true → ∀ u ∈ us, 0 ≤ u.l ∧ u.l ≤ m - 1 ∧ 1 ≤ u.t ∧ u.t ≤ 3600000000000 := by
  intro us
  induction us with
  | nil => intro b a _ _ u hu; simp at hu
  | cons x us ih =>
    intro b a hb h u hu
    by_cases hx : b + 1 ≤ x.l ∧ x.l ≤ m - 1 ∧ 1 ≤ x.t ∧ x.t ≤ 3600000000000 ∧ a + x.t ≤ 230400000000000
    · rw [uok_cons _ _ _ _ _ hx] at h
      rcases List.mem_cons.1 hu with rfl | hu
      · exact ⟨by omega, hx.2.1, hx.2.2.1, hx.2.2.2.1⟩
      · exact ih _ _ (by omega) h u hu
    · rw [uok_no _ _ _ _ _ hx] at h; cases h
theorem ckP_ok {many : Int} {ls : List Lm} {ws : List Int} {B : Int} {us : List Us} (h : ckP many ls ws B us = 0) : (∀ u ∈ us, 0 ≤ u.l ∧ u.l ≤ (ls.length : Int) - 1 ∧ 1 ≤ u.t ∧ u.t ≤ 3600000000000) ∧ us.length ≤ 400 ∧ ls.length ≤ 400 := by
  unfold ckP at h
  split at h
  · rename_i h1
    have := (ckS_in (ckW_ok h1).1).2.2.1
    split at h
    · rename_i h2
      exact ⟨uok_mem _ us (-1) 0 (by decide) h2.2.1, h2.1, this⟩
    · cases h
  · rename_i h1; exact absurd h h1
theorem cru_FU {ls : List Lm} {ys : List Int} {us : List Us} (h : ∀ u ∈ us, FU u) (hl : ∀ u ∈ us, u.l ≤ 400) : ∀ u ∈ us.map (cru ls ys), FU u := by
  intro u hu
  obtain ⟨x, hx, rfl⟩ := List.mem_map.1 hu
  have h1 := plc_le ls ys x.l.toNat
  have h2 := hl x hx
  have h3 := h x hx
  refine ⟨?_, h3.2⟩
  show FB ((plc ls ys x.l.toNat : Nat) : Int)
  constructor <;> omega
theorem nil_isU (w : World) : IsU w (.slice none 0 0) [] := ⟨none, 0, rfl, Nat.le_refl _, Nat.zero_le _, by simp, fun h => absurd rfl h⟩
theorem OwU.set {B : Nat} {w : World} {v u : Value} {us : List Us} {p : Addr} (h : OwU B w v us) (hp : p.block < B) : OwU B (w.setCell p u) v us := ownsRow_set h hp

set_option maxRecDepth 100000 in
set_option maxHeartbeats 16000000 in
theorem rcarry_w (many : Int) (a : Option Addr) (n cap : Nat) (ls : List Lm) (aw : Option Addr) (nw cw : Nat) (ws : List Int) (B : Int) (au : Option Addr) (nu cu : Nat) (us : List Us) (ay : Option Addr) (ny cy : Nat) (ys : List Int) (w : World)
    (hS : IsS w (.slice a n cap) ls) (hW : IsL w (.slice aw nw cw) ws) (hU : IsU w (.slice au nu cu) us) (hY : IsL w (.slice ay ny cy) ys) :
    Calls Tryz.prog 46 #[.agg #[.int .i64 many, .slice a n cap], .slice aw nw cw, .agg #[.int .i64 B, .slice au nu cu], .slice ay ny cy] w fun e w' => ∃ v, e = .returned (.tuple #[.agg #[.int .i64 (crB many ls ws B us ys), v], .int .i64 (crE many ls ws B us ys)]) ∧ Nice v ∧ IsU w' v (crV many ls ws B us ys) ∧ Below w.heap.size w w' := by
  have HAK := fun (X : World) => fun (hX : Below w.heap.size w X) => hide (rcheckProof_w many a n cap ls aw nw cw ws B au nu cu us X (hS.below hX) (hW.below hX) (hU.below hX))
  have HYY := hide hY
  obtain ⟨a', cap', hv, s1, s2, s3, s4⟩ := hS
  cases hv
  obtain ⟨au', cu', hv, g1, g2, g3, g4⟩ := hU
  cases hv
  unfold maxLen at s2 g2
  have HUF : Hid (∀ u ∈ us, FU u) := g3
  clear s3 g3 hW hY
  obtain ⟨W0, hW0⟩ : ∃ W, ((w.alloc (.cells #[.int .i64 many, .slice a ls.length cap] 24)).alloc (.cells #[.int .i64 B, .slice au us.length cu] 54)).alloc (.cells #[.int .i64 0, .slice none 0 0] 54) = W := ⟨_, rfl⟩
  have hz0 : W0.heap.size = w.heap.size + 1 + 1 + 1 := by rw [← hW0]; simp
  have hB0 : Below w.heap.size w W0 := by rw [← hW0]; exact (by repeat (first | exact Below.refl _ _ | assumption | refine Below.alloc ?_ (by first | omega | (simp; omega) | simp) _ | refine Below.setCell ?_ (by first | omega | (simp; omega) | simp) _ | refine below_drewN ?_ _ | refine Below.drew ?_ | refine back ?_ (by assumption)))
  have KC := hide (show ∀ V, Below W0.heap.size W0 V → V.cell? ⟨w.heap.size, 1, none⟩ = some (.slice a ls.length cap) ∧ V.cell? ⟨w.heap.size + 1, 0, none⟩ = some (.int .i64 B) ∧ V.cell? ⟨w.heap.size + 1, 1, none⟩ = some (.slice au us.length cu) ∧ V.cell? ⟨w.heap.size + 1 + 1, 0, none⟩ = some (.int .i64 0) ∧ V.cell? ⟨w.heap.size + 1 + 1, 1, none⟩ = some (.slice none 0 0) ∧ V.frozen? ⟨w.heap.size + 1 + 1, 0, none⟩ = false ∧ V.frozen? ⟨w.heap.size + 1 + 1, 1, none⟩ = false from fun V hV => by
    have c : ∀ b o u, b < w.heap.size + 1 + 1 + 1 → W0.cell? ⟨b, o, none⟩ = some u → V.cell? ⟨b, o, none⟩ = some u := fun b o u hlt h => (hV.cell (p := ⟨b, o, none⟩) (by rw [hz0]; exact hlt)).trans h
    have f : ∀ b o, b < w.heap.size + 1 + 1 + 1 → W0.frozen? ⟨b, o, none⟩ = false → V.frozen? ⟨b, o, none⟩ = false := fun b o hlt h => (hV.frozen (p := ⟨b, o, none⟩) (by rw [hz0]; exact hlt)).trans h
    subst hW0
    exact ⟨c _ _ _ (by omega) ((cell_old (by simp; omega)).trans ((cell_old (by simp)).trans (cell_new rfl))), c _ _ _ (by omega) ((cell_old (by simp)).trans (cell_new (by simp))), c _ _ _ (by omega) ((cell_old (by simp)).trans (cell_new (by simp))), c _ _ _ (by omega) (cell_new (by simp)), c _ _ _ (by omega) (cell_new (by simp)), f _ _ (by omega) (frozen_new (by simp)), f _ _ (by omega) (frozen_new (by simp))⟩)
  have HW0 := hide hW0
  clear hW0
  by_cases hck : ckP many ls ws B us = 0
  rotate_left
  · have HE : Hid (crE many ls ws B us ys = ckP many ls ws B us ∧ crB many ls ws B us ys = 0 ∧ crV many ls ws B us ys = []) := by refine ⟨?_, ?_, ?_⟩ <;> simp [crE, crB, crV, hck]
    obtain ⟨r, hr⟩ : ∃ r, ckP many ls ws B us = r := ⟨_, rfl⟩
    rw [hr] at hck HE HAK
    have h1 : (r != 0) = true := by simpa using hck
    clear hr hck
    go_enter Tryz.func46, Tryz.ntmps46
    go_wp2_with (go_at_call 42; rw [HW0.out]; refine (HAK _ hB0).out.mono ?_; rintro e w1 ⟨rfl, hb1⟩; obtain ⟨q0, q1, q2, q3, q4, q5, q6⟩ := KC.out _ hb1)
    refine bodyPost_ret (v := .tuple #[.agg #[.int .i64 0, .slice none 0 0], .int .i64 r]) (by simp [results, Tryz.results46, go_sem, q3, q4, q5, q6]) rfl ⟨_, by rw [HE.out.1, HE.out.2.1], .inl rfl, by rw [HE.out.2.2]; exact nil_isU _, ?_⟩
    exact ((hB0.trans (hb1.mono (by omega))).setCell (by show w.heap.size ≤ w.heap.size + 1 + 1; omega) _).setCell (by show w.heap.size ≤ w.heap.size + 1 + 1; omega) _
  rw [hck] at HAK
  have HE : Hid ((crE many ls ws B us ys = if crS ls ys us = true then 0 else 3) ∧ (crB many ls ws B us ys = if crS ls ys us = true then B else 0) ∧ crV many ls ws B us ys = if crS ls ys us = true then us.map (cru ls ys) else []) := by refine ⟨?_, ?_, ?_⟩ <;> simp [crE, crB, crV, hck]
  obtain ⟨hu0, hu1, hu2⟩ := ckP_ok hck
  have HUV : Hid (∀ u ∈ us, 0 ≤ u.l ∧ u.l ≤ (ls.length : Int) - 1 ∧ 1 ≤ u.t ∧ u.t ≤ 3600000000000) := hu0
  clear hck hu0
  go_enter Tryz.func46, Tryz.ntmps46
  go_wp2_with (go_at_call 42; rw [HW0.out]; refine (HAK _ hB0).out.mono ?_; rintro e w1 ⟨rfl, hb1⟩; obtain ⟨q0, q1, q2, q3, q4, q5, q6⟩ := KC.out _ hb1; have hz1 := hb1.size; rw [hz0] at hz1; have hz2 : w.heap.size + 1 < w1.heap.size := (by omega); have hz3 : w.heap.size < w1.heap.size := (by omega))
  have hB2 : Below w1.heap.size w1 (w1.alloc (.cells #[.int .i64 B, .slice none 0 0] 54)) := (Below.refl _ w1).alloc (Nat.le_refl _) _
  have HB0 := hide (hB0.trans (hb1.mono (by omega)))
  have HB2 := hide hB2
  have HZ : Hid (w.heap.size + 1 + 1 + 1 ≤ w1.heap.size) := hide (by omega)
  have G0 : (w1.alloc (.cells #[.int .i64 B, .slice none 0 0] 54)).cell? ⟨w1.heap.size, 0, none⟩ = some (.int .i64 B) := cell_new rfl
  have G1 : (w1.alloc (.cells #[.int .i64 B, .slice none 0 0] 54)).cell? ⟨w1.heap.size, 1, none⟩ = some (.slice none 0 0) := cell_new rfl
  have G2 : (w1.alloc (.cells #[.int .i64 B, .slice none 0 0] 54)).frozen? ⟨w1.heap.size, 1, none⟩ = false := frozen_new rfl
  have HG := hide (And.intro G0 (And.intro G1 G2))
  clear hB2 hb1 HAK KC hz1 G0 G1 G2 hB0 HW0
  go_outline
  go_loopw [31] (fun i wr => ∃ (k : Nat) (o : Value), i = .int .i64 k ∧ k ≤ us.length ∧ Hid (OwU (w1.heap.size + 1) wr o ((us.take k).map (cru ls ys))) ∧ Hid (∀ u ∈ us.take k, (!decide ((lmI ls u.l).y ∈ ys)) = true) ∧ Hid (Below w1.heap.size w1 wr) ∧ w1.heap.size < wr.heap.size ∧ wr.cell? ⟨w1.heap.size, 0, none⟩ = some (.int .i64 B) ∧ wr.cell? ⟨w1.heap.size, 1, none⟩ = some o ∧ wr.frozen? ⟨w1.heap.size, 1, none⟩ = false) (fun i _ => us.length - (intOf i).toNat)
  case atStart => exact ⟨0, .slice none 0 0, rfl, Nat.zero_le _, hide (OwU.nil _ _), hide (by simp), HB2, by simp, HG.out.1, HG.out.2.1, HG.out.2.2⟩
  case round =>
    obtain ⟨k, o, rfl, hk, ho, hall, hbw, hgw, hc0, hc1, hfz⟩ := hrel
    have q0' := (hbw.out.cell (p := ⟨w.heap.size, 1, none⟩) (by show w.heap.size < _; omega)).trans q0
    have q1' := (hbw.out.cell (p := ⟨w.heap.size + 1, 0, none⟩) (by show w.heap.size + 1 < _; omega)).trans q1
    have q2' := (hbw.out.cell (p := ⟨w.heap.size + 1, 1, none⟩) (by show w.heap.size + 1 < _; omega)).trans q2
    have q3' := (hbw.out.cell (p := ⟨w.heap.size + 1 + 1, 0, none⟩) (by show w.heap.size + 1 + 1 < _; have := HZ.out; omega)).trans q3
    have q4' := (hbw.out.cell (p := ⟨w.heap.size + 1 + 1, 1, none⟩) (by show w.heap.size + 1 + 1 < _; have := HZ.out; omega)).trans q4
    have q5' := (hbw.out.frozen (p := ⟨w.heap.size + 1 + 1, 0, none⟩) (by show w.heap.size + 1 + 1 < _; have := HZ.out; omega)).trans q5
    have q6' := (hbw.out.frozen (p := ⟨w.heap.size + 1 + 1, 1, none⟩) (by show w.heap.size + 1 + 1 < _; have := HZ.out; omega)).trans q6
    have HBW : Hid (Below w.heap.size w wr) := hide (HB0.out.trans (hbw.out.mono (by omega)))
    have hz5 : w.heap.size < wr.heap.size := by omega
    have hz6 : w.heap.size + 1 < wr.heap.size := by omega
    have hz7 : w.heap.size + 1 + 1 < wr.heap.size := by have := HZ.out; omega
    clear q0 q1 q2 q3 q4 q5 q6
    by_cases hlt : k < us.length
    · obtain ⟨b, off, rfl, hbl, hc⟩ := g4 (by intro h; subst h; simp at hlt)
      obtain ⟨u, hu⟩ : ∃ u, usAt us k = u := ⟨_, rfl⟩
      have hck := (hc k hlt).below HBW.out hbl
      have huv := HUV.out (usAt us k) (by simp [usAt, hlt])
      rw [hu] at hck huv
      obtain ⟨d1, d2⟩ := hck
      have HD : Hid (us.take (k + 1) = us.take k ++ [u]) := by rw [← hu]; exact us_take us k hlt
      have HUK := hide hu
      have hbw' : b < wr.heap.size := by omega
      clear hu hc
      obtain ⟨x, t, rfl⟩ : ∃ x t : Int, u = ⟨x, t⟩ := ⟨u.l, u.t, rfl⟩
      simp only at d1 d2 huv
      obtain ⟨v1, v2, v3, v4⟩ := huv
      obtain ⟨j, rfl⟩ : ∃ j : Nat, x = j := ⟨x.toNat, by omega⟩
      have hjl : j < ls.length := by omega
      have hj3 : (j : Int) < ls.length := by omega
      obtain ⟨b2, off2, rfl, hbl2, hc2⟩ := s4 (by intro h; subst h; simp at hjl)
      obtain ⟨l, hl⟩ : ∃ l, lmAt ls j = l := ⟨_, rfl⟩
      have hck2 := (hc2 j hjl).below HBW.out hbl2
      rw [hl] at hck2
      obtain ⟨m1, m2, m3, m4⟩ := hck2
      have HL : Hid (lmI ls j = l) := hl
      have hbw2 : b2 < wr.heap.size := by have := HBW.out.size; omega
      have HC2 := hide hc2
      clear hl hc2
      have hhas := fun (y : Int) (X : World) => fun hX : Below w.heap.size w X => hide (has_w ay ny cy ys y X (HYY.out.below hX))
      have hhl := hhas l.y
      by_cases hin : l.y ∈ ys
      · have hd : decide (l.y ∈ ys) = true := by simpa using hin
        have HN : Hid (crS ls ys us = false) := by
          refine all_false _ us k hlt ?_
          have e : us[k] = (⟨j, t⟩ : Us) := by rw [← HUK.out]; simp [usAt, hlt]
          rw [e]; show (!decide ((lmI ls (j : Int)).y ∈ ys)) = false; rw [HL.out, hd]; rfl
        rw [hd] at hhl
        clear hd hin hhas
        go_wp2_with (go_at_call 61; refine (hhl _ (by have := HBW.out; exact (by repeat (first | exact Below.refl _ _ | assumption | refine Below.alloc ?_ (by first | omega | (simp; omega) | simp) _ | refine Below.setCell ?_ (by first | omega | (simp; omega) | simp) _ | refine below_drewN ?_ _ | refine Below.drew ?_ | refine back ?_ (by assumption))))).out.mono ?_; rintro e w2 ⟨rfl, rfl⟩)
        refine bodyPost_ret (v := .tuple #[.agg #[.int .i64 0, .slice none 0 0], .int .i64 3]) (by simp [results, Tryz.results46, go_sem, q3', q4', q5', q6', hz7]) rfl ⟨_, by rw [HE.out.1, HE.out.2.1, HN.out]; rfl, .inl rfl, by rw [HE.out.2.2, HN.out]; exact nil_isU _, ?_⟩
        have := HBW.out
        repeat (first | exact this | refine Below.setCell ?_ (by show w.heap.size ≤ w.heap.size + 1 + 1; omega) _ | refine Below.alloc ?_ (by first | omega | (simp; omega)) _)
      · have hd : decide (l.y ∈ ys) = false := by simpa using hin
        rw [hd] at hhl
        clear hd
        have HN1 : Hid (∀ u ∈ us.take (k + 1), (!decide ((lmI ls u.l).y ∈ ys)) = true) := by
          intro u hu
          rw [HD.out] at hu
          rcases List.mem_append.1 hu with hu | hu
          · exact hall.out u hu
          · rw [List.mem_singleton.1 hu]; show (!decide ((lmI ls (j : Int)).y ∈ ys)) = true; rw [HL.out]; simpa using hin
        clear hin hall
        go_wp2_with (go_at_call 61; refine (hhl _ (by have := HBW.out; exact (by repeat (first | exact Below.refl _ _ | assumption | refine Below.alloc ?_ (by first | omega | (simp; omega) | simp) _ | refine Below.setCell ?_ (by first | omega | (simp; omega) | simp) _ | refine below_drewN ?_ _ | refine Below.drew ?_ | refine back ?_ (by assumption))))).out.mono ?_; rintro e w2 ⟨rfl, rfl⟩)
        obtain ⟨V, hV⟩ : ∃ V, V = wr := ⟨_, rfl⟩
        subst hV
        have hw0 : Below w.heap.size w (V.alloc (.cells #[.int .i64 j, .int .i64 t] 103)) := HBW.out.alloc HBW.out.size _
        have HW0 := hide hw0
        clear hw0 hhl m1 m2 m3 m4
        go_outline
        go_loopw [14, 51] (fun c i wx => ∃ m : Nat, c = .int .i64 (plc ls ys m : Nat) ∧ i = .int .i64 m ∧ m ≤ j ∧ Hid (Below (V.heap.size + 1) (V.alloc (.cells #[.int .i64 j, .int .i64 t] 103)) wx)) (fun _ i _ => j - (intOf i).toNat)
        case atStart => exact ⟨0, by rw [plc_zero]; rfl, rfl, Nat.zero_le _, hide (Below.refl _ _)⟩
        case round =>
          obtain ⟨m, rfl, rfl, hm, hbx⟩ := hrel
          have hzx : V.heap.size + 1 ≤ wr.heap.size := by have := hbx.out.size; simpa using this
          have HWX : Hid (Below w.heap.size w wr) := hide (HW0.out.trans (hbx.out.mono (by have := HBW.out.size; omega)))
          by_cases hmj : m < j
          · obtain ⟨y, hy⟩ : ∃ y, lmAt ls m = y := ⟨_, rfl⟩
            have hck3 := (HC2.out m (by omega)).below HWX.out hbl2
            rw [hy] at hck3
            obtain ⟨n1, n2, n3, n4⟩ := hck3
            have hb2x : b2 < wr.heap.size := by omega
            have hmj3 : (m : Int) < j := by omega
            have hhy := hhas y.y
            have hple := plc_le ls ys m
            by_cases hyy : y.y ∈ ys
            · have hd : decide (y.y ∈ ys) = true := by simpa using hyy
              have HP : Hid (plc ls ys (m + 1) = plc ls ys m) := plc_in ls ys m (by omega) y hy hyy
              rw [hd] at hhy
              clear hd hyy hy
              go_wp2_with (go_at_call 61; refine (hhy _ (by have := HWX.out; exact (by repeat (first | exact Below.refl _ _ | assumption | refine Below.alloc ?_ (by first | omega | (simp; omega) | simp) _ | refine Below.setCell ?_ (by first | omega | (simp; omega) | simp) _ | refine below_drewN ?_ _ | refine Below.drew ?_ | refine back ?_ (by assumption))))).out.mono ?_; rintro e w2 ⟨rfl, rfl⟩)
              exact ⟨⟨m + 1, by rw [HP.out], by go_num, by omega, hide (hbx.out.alloc (by omega) _)⟩, by simp [intOf]; omega⟩
            · have hd : decide (y.y ∈ ys) = false := by simpa using hyy
              have HP : Hid (plc ls ys (m + 1) = plc ls ys m + 1) := plc_out ls ys m (by omega) y hy hyy
              rw [hd] at hhy
              clear hd hyy hy
              obtain ⟨pm, hpm⟩ : ∃ q, plc ls ys m = q := ⟨_, rfl⟩
              rw [hpm] at HP hple
              rw [hpm]
              clear hpm
              go_wp2_with (go_at_call 61; refine (hhy _ (by have := HWX.out; exact (by repeat (first | exact Below.refl _ _ | assumption | refine Below.alloc ?_ (by first | omega | (simp; omega) | simp) _ | refine Below.setCell ?_ (by first | omega | (simp; omega) | simp) _ | refine below_drewN ?_ _ | refine Below.drew ?_ | refine back ?_ (by assumption))))).out.mono ?_; rintro e w2 ⟨rfl, rfl⟩)
              exact ⟨⟨m + 1, by rw [HP.out]; go_num, by go_num, by omega, hide (hbx.out.alloc (by omega) _)⟩, by simp [intOf]; omega⟩
          · have hmm : m = j := by omega
            subst hmm
            have z0 := (hbx.out.cell (p := ⟨V.heap.size, 0, none⟩) (by show V.heap.size < _; omega)).trans (cell_new rfl)
            have z1 := (hbx.out.cell (p := ⟨V.heap.size, 1, none⟩) (by show V.heap.size < _; omega)).trans (cell_new rfl)
            have z2 := (hbx.out.cell (p := ⟨w1.heap.size, 1, none⟩) (by show w1.heap.size < _; omega)).trans ((cell_old hgw).trans hc1)
            have z3 := (hbx.out.cell (p := ⟨w1.heap.size, 0, none⟩) (by show w1.heap.size < _; omega)).trans ((cell_old hgw).trans hc0)
            have z4 := (hbx.out.frozen (p := ⟨w1.heap.size, 1, none⟩) (by show w1.heap.size < _; omega)).trans ((frozen_old hgw).trans hfz)
            have hO : OwU (w1.heap.size + 1) wr o ((us.take k).map (cru ls ys)) := ownsRow_below (World.ownsRow.alloc ho.out _) (by rw [World.size_alloc]; exact hbx.out)
            have HO := hide hO
            have hgr : w1.heap.size < wr.heap.size := by omega
            have hVr : V.heap.size < wr.heap.size := by omega
            obtain ⟨pm, hpm⟩ : ∃ q, plc ls ys m = q := ⟨_, rfl⟩
            have HPM := hide hpm
            rw [hpm]
            have HCR : Hid ((us.take (k + 1)).map (cru ls ys) = (us.take k).map (cru ls ys) ++ [⟨(pm : Nat), t⟩]) := by
              show _ = _
              rw [HD.out, List.map_append, ← HPM.out]; rfl
            have HLN : Hid ((((us.take k).map (cru ls ys)).length + [(⟨(pm : Nat), t⟩ : Us)].length) * 16 ≤ 140737488355328) := by
              show _ ≤ _
              simp only [List.length_map, List.length_take, List.length_cons, List.length_nil]; omega
            have HLK : Hid (((us.take k).map (cru ls ys)).length + [(⟨(pm : Nat), t⟩ : Us)].length = k + 1) := by
              show _ = _
              simp only [List.length_map, List.length_take, List.length_cons, List.length_nil]; omega
            have HBV : Hid (Below w1.heap.size w1 wr) := hide ((hbw.out.alloc hbw.out.size _).trans (hbx.out.mono (by omega)))
            clear hpm hO ho hhas
            go_wp2_with (at_builtin; go_loud (refine catU_w rfl (.tmp 64) (.tmp 69) rfl (w1.heap.size + 1) (wr.alloc (.cells #[.int .i64 pm, .int .i64 t] 103)) o (.slice (some ⟨wr.heap.size, 0, none⟩) 1 1) ((us.take k).map (cru ls ys)) [⟨(pm : Nat), t⟩] (World.ownsRow.alloc HO.out _) rfl rfl (one_srcU (u := ⟨(pm : Nat), t⟩) rfl) HLN.out (by simp; omega) ?_; intro v2 w2 ho2 hg2 _ hf2; have hb2 := grown_bel (World.ownsRow.alloc HO.out _) (by simp; omega) hg2; have zz2 := hb2.size; (try simp at zz2); obtain ⟨gg, cc, rfl⟩ := hf2 (by simp); rw [← HCR.out, HLK.out] at ho2; have HO2 := hide ho2; have HB2 := hide hb2; have y2 := (hb2.cell (p := ⟨w1.heap.size, 1, none⟩) (by show w1.heap.size < _; omega)).trans ((cell_old hgr).trans z2); have y3 := (hb2.cell (p := ⟨w1.heap.size, 0, none⟩) (by show w1.heap.size < _; omega)).trans ((cell_old hgr).trans z3); have y4 := (hb2.frozen (p := ⟨w1.heap.size, 1, none⟩) (by show w1.heap.size < _; omega)).trans ((frozen_old hgr).trans z4); clear ho2 hg2 hf2))
            refine ⟨⟨k + 1, _, by go_num, by omega, hide (OwU.set HO2.out (by show w1.heap.size < w1.heap.size + 1; omega)), HN1, hide (((HBV.out.alloc HBV.out.size _).trans (HB2.out.mono (by omega))).setCell (Nat.le_refl _) _), by simp; omega, ?_, World.cell?_setCell_same w2 _ _ y2, ?_⟩, by simp [intOf]; omega⟩
            · rw [World.cell?_setCell_other (h := by intro e; injection e with _ e2 _; cases e2)]; exact y3
            · rw [World.frozen?_setCell]; exact y4
    · have hkl : k = us.length := by omega
      subst hkl
      have hT : us.take us.length = us := List.take_length
      rw [hT] at ho hall
      have HN : Hid (crS ls ys us = true) := List.all_eq_true.2 hall.out
      obtain ⟨o1, o2, o3, rfl⟩ := own_form ho.out
      clear hall
      go_wp2
      refine bodyPost_ret (v := .tuple #[.agg #[.int .i64 B, .slice o1 o2 o3], .int .i64 0]) (by simp [results, Tryz.results46, go_sem, q3', q4', q5', q6', hz7]) rfl ⟨_, by rw [HE.out.1, HE.out.2.1, HN.out]; rfl, own_nice ho.out, ?_, ?_⟩
      · rw [HE.out.2.2, HN.out]
        refine OwU.isU (OwU.set (OwU.set ho.out ?_) ?_) (cru_FU HUF.out (fun u hu => by have := HUV.out u hu; omega))
        · show w.heap.size + 1 + 1 < _; have := HZ.out; omega
        · show w.heap.size + 1 + 1 < _; have := HZ.out; omega
      · have := HBW.out
        repeat (first | exact this | refine Below.setCell ?_ (by show w.heap.size ≤ w.heap.size + 1 + 1; omega) _ | refine Below.alloc ?_ (by first | omega | (simp; omega)) _)
end Go.Proofs.YtpedbdicjgdgkaaGreat

/- What a proof is in the system without some sources: the program's side. -/
namespace Go.Proofs.YtpedbdicjgdgkaaGreat
open Go Go.RowKit

theorem run_catU (B : Nat) (W : World) (v y : Value) (xs ys : List Us) (ty : TypeId) (hown : OwU B W v xs) (hy : SrcU W y ys) (hl : (xs.length + ys.length) * 16 ≤ 140737488355328) (hB : B ≤ W.heap.size) :
    ∃ v' w', (Builtin.append_ #[52, 52] ty #[v, y]).run Tryz.prog W = .ok v' w' ∧ OwU B w' v' (xs ++ ys) ∧ W.grownBy w' v.ownBlock ∧ (v'.ownBlock = v.ownBlock ∨ v'.ownBlock = some W.heap.size) := by
  obtain ⟨i0, hi, hz0, hz1, hz2⟩ := info_parts infoU
  rcases hy with ⟨rfl, rfl⟩ | ⟨b, off, c, rfl, hc⟩
  · refine ⟨v, W, run_append_owned_none (P := Tryz.prog) (w := W) B 52 ty 103 i0 2 Tryz.underlying52 hi v xs.length (xs.flatMap usF) hown, by simpa using hown, grownBy_refl W _, .inl rfl⟩
  · obtain ⟨v', w', hr, h2, h3, _, h5⟩ := run_append_own_at (P := Tryz.prog) W B 52 ty 103 i0 _ 2 16 Tryz.underlying52 hi hz0 hz1 hz2 rfl (by decide) v xs.length (xs.flatMap usF) hown ⟨b, off, none⟩ ys.length c (ys.flatMap usF) (usF_len ys) (fun j u hj => by
      have := hc j u hj
      by_cases h0 : j = 0
      · subst h0; simpa [Addr.add] using this
      · simpa [Addr.add, h0] using this) (usF_one ys) (by unfold maxLen; omega) hl hB
    refine ⟨v', w', hr, ?_, h3, h5⟩
    unfold OwU
    rw [List.length_append, List.flatMap_append]
    exact h2
theorem step_catU {ops : Array Oper} {o : Oper} {a : Act} {w : World} {K : Act → World → Prop} {Q : Exit → Act → World → Prop} {E : Prop} (hgd : o.guard = none) (s x : Operand)
    (ho : o.op = .call { callee := .builtin .append, args := #[s, x], argTypes := #[52, 52] })
    (B : Nat) (v y : Value) (xs ys : List Us) (hs : a.eval s = v) (hx : a.eval x = y) (hown : OwU B w v xs) (hy : SrcU w y ys) (hl : (xs.length + ys.length) * 16 ≤ 140737488355328) (hB : B ≤ w.heap.size)
    (h : ∀ v' w', OwU B w' v' (xs ++ ys) → Below B w w' → w.grownBy w' v.ownBlock → K (a.put o.dst v') w') :
    if Region.wanted o (yielded ops a.tmps) = true then Oper.wp Tryz.prog o a w K Q else E := by
  rw [if_pos (by simp [Region.wanted, hgd])]
  obtain ⟨v', w', hr, h1, h2, h3⟩ := run_catU B w v y xs ys o.type hown hy hl hB
  unfold Oper.wp execOp
  simp only [ho, resolve, invoke, builtin, Sem.run_bind, Sem.run_pure, Result.andThen_ok, List.map_toArray, List.map_cons, List.map_nil, hs, hx, hr]
  exact h v' w' h1 (grown_bel hown hB h2) h2
theorem one_srcU' {W : World} {u : Us} {o : Obj} {g : Nat} (h : o = .cells #[.int .i64 u.l, .int .i64 u.t] 103) (hg : g = W.heap.size) : SrcU (W.alloc o) (.slice (some ⟨g, 0, none⟩) 1 1) [u] := by
  subst hg; exact one_srcU h
theorem OwU.drew {B : Nat} {w : World} {v : Value} {us : List Us} (h : OwU B w v us) : OwU B w.drew v us := h
theorem SrcU.drew {w : World} {v : Value} {us : List Us} (h : SrcU w v us) : SrcU w.drew v us := h
theorem OwU.alloc {B : Nat} {w : World} {v : Value} {us : List Us} (h : OwU B w v us) (o : Obj) : OwU B (w.alloc o) v us := World.ownsRow.alloc h o
theorem rsn_le (xs : List Int) : (rsn xs).length ≤ xs.length := by
  have := cpt_len (xs.mergeSort fun x y => decide (x ≤ y))
  rw [List.length_mergeSort] at this
  exact this
theorem rsn_has (ys : List Int) (y : Int) : (rsn ys).contains y = decide (y ∈ ys) := by
  have := rsn_mem ys y
  by_cases h : y ∈ ys
  · rw [decide_eq_true h]; simpa using this.2 h
  · rw [decide_eq_false h]
    have h2 : y ∉ rsn ys := fun e => h (this.1 e)
    simpa using h2
theorem plcF (ls : List Lm) (ys : List Int) (m : Nat) (q : Nat) : upd (fun q => if q < m then ((plc ls ys q : Nat) : Int) else 0) m ((plc ls ys m : Nat) : Int) q = if q < m + 1 then ((plc ls ys q : Nat) : Int) else 0 := by
  unfold upd
  by_cases h1 : q = m
  · subst h1; simp
  · by_cases h2 : q < m
    · have : q < m + 1 := by omega
      simp [h1, h2, this]
    · have : ¬ q < m + 1 := by omega
      simp [h1, h2, this]

set_option maxRecDepth 100000 in
set_option maxHeartbeats 16000000 in
theorem carry_w (many : Int) (a : Option Addr) (n cap : Nat) (ls : List Lm) (aw : Option Addr) (nw cw : Nat) (ws : List Int) (B : Int) (au : Option Addr) (nu cu : Nat) (us : List Us) (ay : Option Addr) (ny cy : Nat) (ys : List Int) (w : World)
    (hS : IsS w (.slice a n cap) ls) (hW : IsL w (.slice aw nw cw) ws) (hN : Nice (.slice aw nw cw)) (hU : IsU w (.slice au nu cu) us) (hY : IsL w (.slice ay ny cy) ys) (hYN : Nice (.slice ay ny cy)) (hYB : ys.length * 8 ≤ 140737488355328) :
    Calls Tryz.prog 45 #[.agg #[.int .i64 many, .slice a n cap], .slice aw nw cw, .agg #[.int .i64 B, .slice au nu cu], .slice ay ny cy] w fun e w' => ∃ v, e = .returned (.tuple #[.agg #[.int .i64 (crB many ls ws B us ys), v], .int .i64 (crE many ls ws B us ys)]) ∧ Nice v ∧ IsU w' v (crV many ls ws B us ys) ∧ Below w.heap.size w w' := by
  have HAK := fun (X : World) => fun (hX : Below w.heap.size w X) => hide (checkProof_w many a n cap ls aw nw cw ws B au nu cu us X (hS.below hX) (hW.below hX) hN (hU.below hX))
  have HNO := fun (X : World) => fun (hX : Below w.heap.size w X) => hide (notOf_w (.slice ay ny cy) ys X (hY.below hX) hYN hYB)
  obtain ⟨a', cap', hv, s1, s2, s3, s4⟩ := hS
  cases hv
  obtain ⟨au', cu', hv, g1, g2, g3, g4⟩ := hU
  cases hv
  unfold maxLen at s2 g2
  have HUF : Hid (∀ u ∈ us, FU u) := g3
  have HYB := hide hYB
  clear s3 g3 hW hY hYB
  obtain ⟨W0, hW0⟩ : ∃ W, ((w.alloc (.cells #[.int .i64 many, .slice a ls.length cap] 24)).alloc (.cells #[.int .i64 B, .slice au us.length cu] 54)).alloc (.cells #[.int .i64 0, .slice none 0 0] 54) = W := ⟨_, rfl⟩
  have hz0 : W0.heap.size = w.heap.size + 1 + 1 + 1 := by rw [← hW0]; simp
  have hB0 : Below w.heap.size w W0 := by rw [← hW0]; exact (by repeat (first | exact Below.refl _ _ | assumption | refine Below.alloc ?_ (by first | omega | (simp; omega) | simp) _ | refine Below.setCell ?_ (by first | omega | (simp; omega) | simp) _ | refine below_drewN ?_ _ | refine Below.drew ?_ | refine back ?_ (by assumption)))
  have KC := hide (show ∀ V, Below W0.heap.size W0 V → V.cell? ⟨w.heap.size, 1, none⟩ = some (.slice a ls.length cap) ∧ V.cell? ⟨w.heap.size + 1, 0, none⟩ = some (.int .i64 B) ∧ V.cell? ⟨w.heap.size + 1, 1, none⟩ = some (.slice au us.length cu) ∧ V.cell? ⟨w.heap.size + 1 + 1, 0, none⟩ = some (.int .i64 0) ∧ V.cell? ⟨w.heap.size + 1 + 1, 1, none⟩ = some (.slice none 0 0) ∧ V.frozen? ⟨w.heap.size + 1 + 1, 0, none⟩ = false ∧ V.frozen? ⟨w.heap.size + 1 + 1, 1, none⟩ = false from fun V hV => by
    have c : ∀ b o u, b < w.heap.size + 1 + 1 + 1 → W0.cell? ⟨b, o, none⟩ = some u → V.cell? ⟨b, o, none⟩ = some u := fun b o u hlt h => (hV.cell (p := ⟨b, o, none⟩) (by rw [hz0]; exact hlt)).trans h
    have f : ∀ b o, b < w.heap.size + 1 + 1 + 1 → W0.frozen? ⟨b, o, none⟩ = false → V.frozen? ⟨b, o, none⟩ = false := fun b o hlt h => (hV.frozen (p := ⟨b, o, none⟩) (by rw [hz0]; exact hlt)).trans h
    subst hW0
    exact ⟨c _ _ _ (by omega) ((cell_old (by simp; omega)).trans ((cell_old (by simp)).trans (cell_new rfl))), c _ _ _ (by omega) ((cell_old (by simp)).trans (cell_new (by simp))), c _ _ _ (by omega) ((cell_old (by simp)).trans (cell_new (by simp))), c _ _ _ (by omega) (cell_new (by simp)), c _ _ _ (by omega) (cell_new (by simp)), f _ _ (by omega) (frozen_new (by simp)), f _ _ (by omega) (frozen_new (by simp))⟩)
  have HW0 := hide hW0
  clear hW0
  by_cases hck : ckP many ls ws B us = 0
  rotate_left
  · have HE : Hid (crE many ls ws B us ys = ckP many ls ws B us ∧ crB many ls ws B us ys = 0 ∧ crV many ls ws B us ys = []) := by refine ⟨?_, ?_, ?_⟩ <;> simp [crE, crB, crV, hck]
    obtain ⟨r, hr⟩ : ∃ r, ckP many ls ws B us = r := ⟨_, rfl⟩
    rw [hr] at hck HE HAK
    have h1 : (r != 0) = true := by simpa using hck
    clear hr hck HNO
    go_enter Tryz.func45, Tryz.ntmps45
    go_wp2_with (go_at_call 47; rw [HW0.out]; refine (HAK _ hB0).out.mono ?_; rintro e w1 ⟨rfl, hb1⟩; obtain ⟨q0, q1, q2, q3, q4, q5, q6⟩ := KC.out _ hb1)
    refine bodyPost_ret (v := .tuple #[.agg #[.int .i64 0, .slice none 0 0], .int .i64 r]) (by simp [results, Tryz.results45, go_sem, q3, q4, q5, q6]) rfl ⟨_, by rw [HE.out.1, HE.out.2.1], .inl rfl, by rw [HE.out.2.2]; exact nil_isU _, ?_⟩
    exact ((hB0.trans (hb1.mono (by omega))).setCell (by show w.heap.size ≤ w.heap.size + 1 + 1; omega) _).setCell (by show w.heap.size ≤ w.heap.size + 1 + 1; omega) _
  rw [hck] at HAK
  have HE : Hid ((crE many ls ws B us ys = if crS ls ys us = true then 0 else 3) ∧ (crB many ls ws B us ys = if crS ls ys us = true then B else 0) ∧ crV many ls ws B us ys = if crS ls ys us = true then us.map (cru ls ys) else []) := by refine ⟨?_, ?_, ?_⟩ <;> simp [crE, crB, crV, hck]
  obtain ⟨hu0, hu1, hu2⟩ := ckP_ok hck
  have HUV : Hid (∀ u ∈ us, 0 ≤ u.l ∧ u.l ≤ (ls.length : Int) - 1 ∧ 1 ≤ u.t ∧ u.t ≤ 3600000000000) := hu0
  have hmk := make_full ls.length (by omega)
  clear hck hu0
  go_enter Tryz.func45, Tryz.ntmps45
  go_wp2_with (first
    | (go_at_call 47; rw [HW0.out]; refine (HAK _ hB0).out.mono ?_; rintro e w1 ⟨rfl, hb1⟩; have HB1 := hide hb1; have hz1 := hb1.size; rw [hz0] at hz1; have HB10 := hide (hB0.trans (hb1.mono (by omega))); clear hb1)
    | (go_at_call 68; go_loud (refine (HNO _ HB10.out).out.mono ?_; rintro e w2 ⟨Bc, vc, rfl, hc1, hc2, hc3, hc4, hc5, hb2⟩; have HB2 := hide (HB1.out.trans (hb2.mono (by omega))); obtain ⟨q0, q1, q2, q3, q4, q5, q6⟩ := KC.out _ HB2.out; have hz2 : w.heap.size + 1 < w2.heap.size := (by have := hb2.size; omega); have hz3 : w.heap.size < w2.heap.size := (by omega); have hz4 : w.heap.size + 1 + 1 < w2.heap.size := (by have := hb2.size; omega))))
  have HQ := fun (y : Int) (X : World) => fun (hX : Below w2.heap.size w2 X) => hide (show Calls Tryz.prog 108 #[.int .i64 y, .pointer (some ⟨Bc, 0, none⟩)] X fun e w' => e = .returned (.bool (!decide (y ∈ ys))) ∧ ∃ q, w' = X.drewN q from by
    have := asks_w Bc vc (rsn ys) y X ((hX.cell (p := ⟨Bc, 0, none⟩) hc2).trans hc3) (hc5.below hX) hc4 (rsn_inc ys) (by have := rsn_le ys; have h8 := HYB.out; omega)
    rw [rsn_has] at this; exact this)
  have HBW0 : Hid (Below w.heap.size w w2) := hide (hB0.trans (HB2.out.mono (by omega)))
  have HR0 := hide (show RowF (w2.alloc (.cells (zrs ls.length) 3)) w2.heap.size ls.length (fun q => if q < 0 then ((plc ls ys q : Nat) : Int) else 0) from madeF.cong (fun j _ => by simp))
  have HB3 := hide (show Below w2.heap.size w2 (w2.alloc (.cells (zrs ls.length) 3)) from (Below.refl _ w2).alloc (Nat.le_refl _) _)
  clear hc2 hc3 hc4 hc5 hb2 HAK HNO KC hz1 hc1 hB0 HW0 hmk HB10
  go_outline
  go_loopw [13, 36] (fun c i wr => ∃ m : Nat, c = .int .i64 (plc ls ys m : Nat) ∧ i = .int .i64 m ∧ m ≤ ls.length ∧ Hid (RowF wr w2.heap.size ls.length (fun q => if q < m then ((plc ls ys q : Nat) : Int) else 0)) ∧ Hid (Below w2.heap.size w2 wr) ∧ w2.heap.size < wr.heap.size) (fun _ i _ => ls.length - (intOf i).toNat)
  case atStart => exact ⟨0, by rw [plc_zero]; rfl, rfl, Nat.zero_le _, HR0, HB3, by simp⟩
  case round =>
    obtain ⟨m, rfl, rfl, hm, hrow, hbw, hgw⟩ := hrel
    have HBW : Hid (Below w.heap.size w wr) := hide (HBW0.out.trans (hbw.out.mono (by omega)))
    by_cases hlt : m < ls.length
    · obtain ⟨b2, off2, rfl, hbl2, hc⟩ := s4 (by intro h; subst h; simp at hlt)
      obtain ⟨y, hy⟩ : ∃ y, lmAt ls m = y := ⟨_, rfl⟩
      have hck3 := (hc m hlt).below HBW.out hbl2
      rw [hy] at hck3
      obtain ⟨n1, n2, n3, n4⟩ := hck3
      have hb2x : b2 < wr.heap.size := by have := HBW.out.size; omega
      have hmj3 : (m : Int) < ls.length := by omega
      have hple := plc_le ls ys m
      have hcm := hrow.out.c m hlt
      have hzm := hrow.out.z m
      simp only [Nat.lt_irrefl, if_false] at hcm
      have HSET := hide (fun (X : World) (h : RowF X w2.heap.size ls.length (fun q => if q < m then ((plc ls ys q : Nat) : Int) else 0)) => ((h.set m ((plc ls ys m : Nat) : Int) hlt).cong (f' := fun q => if q < m + 1 then ((plc ls ys q : Nat) : Int) else 0) (fun q _ => plcF ls ys m q)))
      have hask := HQ y.y
      by_cases hyy : y.y ∈ ys
      · have hd : (!decide (y.y ∈ ys)) = false := by simpa using hyy
        have HP : Hid (plc ls ys (m + 1) = plc ls ys m) := plc_in ls ys m hlt y hy hyy
        rw [hd] at hask
        clear hd hyy hy hc
        obtain ⟨pm, hpm⟩ : ∃ q, plc ls ys m = q := ⟨_, rfl⟩
        rw [hpm] at HP hple HSET
        rw [hpm]
        clear hpm
        go_wp2_with (go_at_call 108; go_loud (refine (hask _ (by repeat (first | exact hbw.out | refine Below.drew ?_ | refine below_drawn ?_ _ | refine Below.alloc ?_ (by first | omega | (simp; omega)) _ | refine Below.setCell ?_ (by exact Nat.le_refl _) _))).out.mono ?_; rintro e w3 ⟨rfl, q, rfl⟩))
        refine ⟨⟨m + 1, by rw [HP.out], by go_num, by omega, hide ?_, hide ?_, by simp; omega⟩, by simp [intOf]; omega⟩
        · repeat (first | exact HSET.out _ hrow.out | refine RowF.drewN ?_ | refine RowF.alloc ?_ (by first | exact hgw | (simp; omega)))
        · repeat (first | exact hbw.out | refine Below.drew ?_ | refine below_drawn ?_ _ | refine Below.alloc ?_ (by first | omega | (simp; omega)) _ | refine Below.setCell ?_ (by exact Nat.le_refl _) _)
      · have hd : (!decide (y.y ∈ ys)) = true := by simpa using hyy
        have HP : Hid (plc ls ys (m + 1) = plc ls ys m + 1) := plc_out ls ys m hlt y hy hyy
        rw [hd] at hask
        clear hd hyy hy hc
        obtain ⟨pm, hpm⟩ : ∃ q, plc ls ys m = q := ⟨_, rfl⟩
        rw [hpm] at HP hple HSET
        rw [hpm]
        clear hpm
        go_wp2_with (go_at_call 108; go_loud (refine (hask _ (by repeat (first | exact hbw.out | refine Below.drew ?_ | refine below_drawn ?_ _ | refine Below.alloc ?_ (by first | omega | (simp; omega)) _ | refine Below.setCell ?_ (by exact Nat.le_refl _) _))).out.mono ?_; rintro e w3 ⟨rfl, q, rfl⟩))
        refine ⟨⟨m + 1, by rw [HP.out]; go_num, by go_num, by omega, hide ?_, hide ?_, by simp; omega⟩, by simp [intOf]; omega⟩
        · repeat (first | exact HSET.out _ hrow.out | refine RowF.drewN ?_ | refine RowF.alloc ?_ (by first | exact hgw | (simp; omega)))
        · repeat (first | exact hbw.out | refine Below.drew ?_ | refine below_drawn ?_ _ | refine Below.alloc ?_ (by first | omega | (simp; omega)) _ | refine Below.setCell ?_ (by exact Nat.le_refl _) _)
    · have hmm : m = ls.length := by omega
      subst hmm
      obtain ⟨V, hV⟩ : ∃ V, V = wr := ⟨_, rfl⟩
      subst hV
      have HROW := hide (hrow.out.cong (f' := fun q => ((plc ls ys q : Nat) : Int)) (fun j hj => by simp [hj]))
      have hV2 : w2.heap.size < V.heap.size := hgw
      have q0' := (hbw.out.cell (p := ⟨w.heap.size, 1, none⟩) (by show w.heap.size < _; omega)).trans q0
      have q1' := (hbw.out.cell (p := ⟨w.heap.size + 1, 0, none⟩) (by show w.heap.size + 1 < _; omega)).trans q1
      have q2' := (hbw.out.cell (p := ⟨w.heap.size + 1, 1, none⟩) (by show w.heap.size + 1 < _; omega)).trans q2
      have q3' := (hbw.out.cell (p := ⟨w.heap.size + 1 + 1, 0, none⟩) (by show w.heap.size + 1 + 1 < _; omega)).trans q3
      have q4' := (hbw.out.cell (p := ⟨w.heap.size + 1 + 1, 1, none⟩) (by show w.heap.size + 1 + 1 < _; omega)).trans q4
      have q5' := (hbw.out.frozen (p := ⟨w.heap.size + 1 + 1, 0, none⟩) (by show w.heap.size + 1 + 1 < _; omega)).trans q5
      have q6' := (hbw.out.frozen (p := ⟨w.heap.size + 1 + 1, 1, none⟩) (by show w.heap.size + 1 + 1 < _; omega)).trans q6
      clear q0 q1 q2 q3 q4 q5 q6 hrow hgw
      have hv5 : w.heap.size < V.heap.size := by omega
      have hv6 : w.heap.size + 1 < V.heap.size := by omega
      have hv7 : w.heap.size + 1 + 1 < V.heap.size := by omega
      go_wp2
      have hB2 : Below V.heap.size V (V.alloc (.cells #[.int .i64 B, .slice none 0 0] 54)) := (Below.refl _ V).alloc (Nat.le_refl _) _
      have HB2' := hide hB2
      have G0 : (V.alloc (.cells #[.int .i64 B, .slice none 0 0] 54)).cell? ⟨V.heap.size, 0, none⟩ = some (.int .i64 B) := cell_new rfl
      have G1 : (V.alloc (.cells #[.int .i64 B, .slice none 0 0] 54)).cell? ⟨V.heap.size, 1, none⟩ = some (.slice none 0 0) := cell_new rfl
      have G2 : (V.alloc (.cells #[.int .i64 B, .slice none 0 0] 54)).frozen? ⟨V.heap.size, 1, none⟩ = false := frozen_new rfl
      have HG := hide (And.intro G0 (And.intro G1 G2))
      clear hB2 G0 G1 G2
      go_outline
      go_loopw [58] (fun i wr => ∃ (k : Nat) (o : Value), i = .int .i64 k ∧ k ≤ us.length ∧ Hid (OwU (V.heap.size + 1) wr o ((us.take k).map (cru ls ys))) ∧ Hid (∀ u ∈ us.take k, (!decide ((lmI ls u.l).y ∈ ys)) = true) ∧ Hid (Below V.heap.size V wr) ∧ V.heap.size < wr.heap.size ∧ wr.cell? ⟨V.heap.size, 0, none⟩ = some (.int .i64 B) ∧ wr.cell? ⟨V.heap.size, 1, none⟩ = some o ∧ wr.frozen? ⟨V.heap.size, 1, none⟩ = false) (fun i _ => us.length - (intOf i).toNat)
      case atStart => exact ⟨0, .slice none 0 0, rfl, Nat.zero_le _, hide (OwU.nil _ _), hide (by simp), HB2', by simp, HG.out.1, HG.out.2.1, HG.out.2.2⟩
      case round =>
        obtain ⟨k, o, rfl, hk, ho, hall, hbv, hgw, hc0, hc1, hfz⟩ := hrel
        have r0 := (hbv.out.cell (p := ⟨w.heap.size, 1, none⟩) (by show w.heap.size < _; omega)).trans q0'
        have r1 := (hbv.out.cell (p := ⟨w.heap.size + 1, 0, none⟩) (by show w.heap.size + 1 < _; omega)).trans q1'
        have r2 := (hbv.out.cell (p := ⟨w.heap.size + 1, 1, none⟩) (by show w.heap.size + 1 < _; omega)).trans q2'
        have r3 := (hbv.out.cell (p := ⟨w.heap.size + 1 + 1, 0, none⟩) (by show w.heap.size + 1 + 1 < _; omega)).trans q3'
        have r4 := (hbv.out.cell (p := ⟨w.heap.size + 1 + 1, 1, none⟩) (by show w.heap.size + 1 + 1 < _; omega)).trans q4'
        have r5 := (hbv.out.frozen (p := ⟨w.heap.size + 1 + 1, 0, none⟩) (by show w.heap.size + 1 + 1 < _; omega)).trans q5'
        have r6 := (hbv.out.frozen (p := ⟨w.heap.size + 1 + 1, 1, none⟩) (by show w.heap.size + 1 + 1 < _; omega)).trans q6'
        have HBR : Hid (Below w2.heap.size w2 wr) := hide (hbw.out.trans (hbv.out.mono (by omega)))
        have HBW' : Hid (Below w.heap.size w wr) := hide (HBW.out.trans (hbv.out.mono (by omega)))
        have hz5 : w.heap.size < wr.heap.size := by omega
        have hz6 : w.heap.size + 1 < wr.heap.size := by omega
        have hz7 : w.heap.size + 1 + 1 < wr.heap.size := by omega
        clear q0' q1' q2' q3' q4' q5' q6'
        by_cases hlt : k < us.length
        · obtain ⟨b, off, rfl, hbl, hc⟩ := g4 (by intro h; subst h; simp at hlt)
          obtain ⟨u, hu⟩ : ∃ u, usAt us k = u := ⟨_, rfl⟩
          have hck := (hc k hlt).below HBW'.out hbl
          have huv := HUV.out (usAt us k) (by simp [usAt, hlt])
          rw [hu] at hck huv
          obtain ⟨d1, d2⟩ := hck
          have HD : Hid (us.take (k + 1) = us.take k ++ [u]) := by rw [← hu]; exact us_take us k hlt
          have HUK := hide hu
          have hbw' : b < wr.heap.size := by omega
          clear hu hc
          obtain ⟨x, t, rfl⟩ : ∃ x t : Int, u = ⟨x, t⟩ := ⟨u.l, u.t, rfl⟩
          simp only at d1 d2 huv
          obtain ⟨v1, v2, v3, v4⟩ := huv
          obtain ⟨j, rfl⟩ : ∃ j : Nat, x = j := ⟨x.toNat, by omega⟩
          have hjl : j < ls.length := by omega
          have hj3 : (j : Int) < ls.length := by omega
          obtain ⟨b2, off2, rfl, hbl2, hc2⟩ := s4 (by intro h; subst h; simp at hjl)
          obtain ⟨l, hl⟩ : ∃ l, lmAt ls j = l := ⟨_, rfl⟩
          have hck2 := (hc2 j hjl).below HBW'.out hbl2
          rw [hl] at hck2
          obtain ⟨m1, m2, m3, m4⟩ := hck2
          have HL : Hid (lmI ls j = l) := hl
          have hbw2 : b2 < wr.heap.size := by have := HBW'.out.size; omega
          clear hl hc2
          have hhl := HQ l.y
          by_cases hin : l.y ∈ ys
          · have hd : (!decide (l.y ∈ ys)) = false := by simpa using hin
            have HN : Hid (crS ls ys us = false) := by
              refine all_false _ us k hlt ?_
              have e : us[k] = (⟨j, t⟩ : Us) := by rw [← HUK.out]; simp [usAt, hlt]
              rw [e]; show (!decide ((lmI ls (j : Int)).y ∈ ys)) = false; rw [HL.out, hd]
            rw [hd] at hhl
            clear hd hin
            go_wp2_with (go_at_call 108; go_loud (refine (hhl _ (by repeat (first | exact HBR.out | refine Below.drew ?_ | refine below_drawn ?_ _ | refine Below.alloc ?_ (by first | omega | (simp; omega)) _))).out.mono ?_; rintro e w3 ⟨rfl, q, rfl⟩))
            refine bodyPost_ret (v := .tuple #[.agg #[.int .i64 0, .slice none 0 0], .int .i64 3]) (by simp [results, Tryz.results45, go_sem, r3, r4, r5, r6, hz7]) rfl ⟨_, by rw [HE.out.1, HE.out.2.1, HN.out]; rfl, .inl rfl, by rw [HE.out.2.2, HN.out]; exact nil_isU _, ?_⟩
            have := HBW'.out
            repeat (first | exact this | refine Below.drew ?_ | refine below_drawn ?_ _ | refine Below.setCell ?_ (by show w.heap.size ≤ w.heap.size + 1 + 1; omega) _ | refine Below.alloc ?_ (by first | omega | (simp; omega)) _)
          · have hd : (!decide (l.y ∈ ys)) = true := by simpa using hin
            rw [hd] at hhl
            clear hd
            have HN1 : Hid (∀ u ∈ us.take (k + 1), (!decide ((lmI ls u.l).y ∈ ys)) = true) := by
              intro u hu
              rw [HD.out] at hu
              rcases List.mem_append.1 hu with hu | hu
              · exact hall.out u hu
              · rw [List.mem_singleton.1 hu]; show (!decide ((lmI ls (j : Int)).y ∈ ys)) = true; rw [HL.out]; simpa using hin
            clear hin hall
            go_wp2_with (go_at_call 108; go_loud (refine (hhl _ (by repeat (first | exact HBR.out | refine Below.drew ?_ | refine below_drawn ?_ _ | refine Below.alloc ?_ (by first | omega | (simp; omega)) _))).out.mono ?_; rintro e w3 ⟨rfl, q, rfl⟩))
            obtain ⟨X, hX⟩ : ∃ X, (wr.alloc (.cells #[.int .i64 j, .int .i64 t] 103)).drewN q = X := ⟨_, rfl⟩
            have zx : X.heap.size = wr.heap.size + 1 := by rw [← hX]; simp
            have x0 : X.cell? ⟨V.heap.size, 1, none⟩ = some o := by rw [← hX]; exact (cell_old hgw).trans hc1
            have x1 : X.cell? ⟨V.heap.size, 0, none⟩ = some (.int .i64 B) := by rw [← hX]; exact (cell_old hgw).trans hc0
            have x2 : X.frozen? ⟨V.heap.size, 1, none⟩ = false := by rw [← hX]; exact (frozen_old hgw).trans hfz
            have x3 : X.cell? ⟨wr.heap.size, 0, none⟩ = some (.int .i64 j) := by rw [← hX]; exact cell_new rfl
            have x4 : X.cell? ⟨wr.heap.size, 1, none⟩ = some (.int .i64 t) := by rw [← hX]; exact cell_new rfl
            have x5 : X.cell? ⟨w2.heap.size, j, none⟩ = some (.int .i64 ((plc ls ys j : Nat) : Int)) := by
              rw [← hX]
              exact (cell_old (by show w2.heap.size < wr.heap.size; omega)).trans ((hbv.out.cell (p := ⟨w2.heap.size, j, none⟩) hV2).trans (HROW.out.c j hjl))
            have xO : OwU (V.heap.size + 1) X o ((us.take k).map (cru ls ys)) := by rw [← hX]; exact own_drawn (World.ownsRow.alloc ho.out _) q
            have xB : Below V.heap.size V X := by rw [← hX]; exact below_drawn (hbv.out.alloc (by omega) _) q
            rw [hX]
            obtain ⟨pm, hpm⟩ : ∃ q, plc ls ys j = q := ⟨_, rfl⟩
            have HPM := hide hpm
            rw [hpm] at x5
            have HCR : Hid ((us.take (k + 1)).map (cru ls ys) = (us.take k).map (cru ls ys) ++ [⟨(pm : Nat), t⟩]) := by
              show _ = _
              rw [HD.out, List.map_append, ← HPM.out]; rfl
            have HLN : Hid ((((us.take k).map (cru ls ys)).length + [(⟨(pm : Nat), t⟩ : Us)].length) * 16 ≤ 140737488355328) := by
              show _ ≤ _
              simp only [List.length_map, List.length_take, List.length_cons, List.length_nil]; omega
            have HLK : Hid (((us.take (k + 1)).map (cru ls ys)).length = k + 1) := by
              show _ = _
              simp only [List.length_map, List.length_take]; omega
            have HX := hide xO; have HXB := hide xB
            have hzX : V.heap.size + 1 ≤ X.heap.size := by omega
            have hz8 : V.heap.size < X.heap.size := by omega
            have hz9 : wr.heap.size < X.heap.size := by omega
            have hz10 : w2.heap.size < X.heap.size := by omega
            have KX := hide (show ∀ Y, Below (V.heap.size + 1) X Y → Y.cell? ⟨V.heap.size, 1, none⟩ = some o ∧ Y.cell? ⟨V.heap.size, 0, none⟩ = some (.int .i64 B) ∧ Y.frozen? ⟨V.heap.size, 1, none⟩ = false ∧ Below V.heap.size V Y ∧ V.heap.size < Y.heap.size from fun Y hY => ⟨(hY.cell (p := ⟨V.heap.size, 1, none⟩) (by show V.heap.size < _; omega)).trans x0, (hY.cell (p := ⟨V.heap.size, 0, none⟩) (by show V.heap.size < _; omega)).trans x1, (hY.frozen (p := ⟨V.heap.size, 1, none⟩) (by show V.heap.size < _; omega)).trans x2, xB.trans (hY.mono (by omega)), by have := hY.size; omega⟩)
            clear hX hpm xO xB hbv ho hc0 hc1 hfz d1 d2 m1 m2 m3 m4 zx r0 r1 r2 r3 r4 r5 r6
            go_region_law (refine step_catU (o := ⟨some 84, _, _, _, _, _⟩) (by rfl) (.tmp 74) (.tmp 83) (by rfl) (V.heap.size + 1) o _ ((us.take k).map (cru ls ys)) [⟨(pm : Nat), t⟩] (by rfl) (by rfl) (by repeat (first | exact HX.out | with_reducible refine OwU.drew ?_ | with_reducible refine OwU.alloc ?_ _)) (by first | exact one_srcU' rfl (by simp) | exact SrcU.drew (one_srcU' rfl (by simp))) HLN.out (by simp; omega) ?_; intro v4 w4 ho4 hb4 hg4; obtain ⟨y2, y3, y4, y5, y6⟩ := KX.out _ (Below.trans (show Below (V.heap.size + 1) X _ from (by repeat (first | exact Below.refl _ _ | refine Below.drew ?_ | refine Below.alloc ?_ (by first | omega | (simp; omega)) _))) hb4); rw [← HCR.out] at ho4; obtain ⟨g4, c4, rfl⟩ : ∃ g c, v4 = .slice (some ⟨g, 0, none⟩) (k + 1) c := (by obtain ⟨g, c, e, _⟩ := World.ownsRow.form ho4 (by rw [HLK.out]; omega); exact ⟨g, c, by rw [e, HLK.out]⟩); have HO4 := hide ho4; have HY5 := hide y5; clear ho4 hb4 hg4 y5)
            all_goals
              go_wp2
              refine ⟨⟨k + 1, _, by go_num, by omega, hide (OwU.set HO4.out (by show V.heap.size < V.heap.size + 1; omega)), HN1, hide (HY5.out.setCell (Nat.le_refl _) _), by simp; omega, ?_, World.cell?_setCell_same w4 _ _ y2, ?_⟩, by simp [intOf]; omega⟩
              · rw [World.cell?_setCell_other (h := by intro e; injection e with _ e2 _; cases e2)]; exact y3
              · rw [World.frozen?_setCell]; exact y4
        · have hkl : k = us.length := by omega
          subst hkl
          have hT : us.take us.length = us := List.take_length
          rw [hT] at ho hall
          have HN : Hid (crS ls ys us = true) := List.all_eq_true.2 hall.out
          obtain ⟨o1, o2, o3, rfl⟩ := own_form ho.out
          clear hall
          go_wp2
          refine bodyPost_ret (v := .tuple #[.agg #[.int .i64 B, .slice o1 o2 o3], .int .i64 0]) (by simp [results, Tryz.results45, go_sem, r3, r4, r5, r6, hz7]) rfl ⟨_, by rw [HE.out.1, HE.out.2.1, HN.out]; rfl, own_nice ho.out, ?_, ?_⟩
          · rw [HE.out.2.2, HN.out]
            refine OwU.isU (OwU.set (OwU.set ho.out ?_) ?_) (cru_FU HUF.out (fun u hu => by have := HUV.out u hu; omega))
            · show w.heap.size + 1 + 1 < _; omega
            · show w.heap.size + 1 + 1 < _; omega
          · have := HBW'.out
            repeat (first | exact this | refine Below.drew ?_ | refine below_drawn ?_ _ | refine Below.setCell ?_ (by show w.heap.size ≤ w.heap.size + 1 + 1; omega) _ | refine Below.alloc ?_ (by omega) _)
end Go.Proofs.YtpedbdicjgdgkaaGreat
