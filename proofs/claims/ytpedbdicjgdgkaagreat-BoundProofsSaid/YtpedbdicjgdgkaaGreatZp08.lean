import Derived.Test.YtpedbdicjgdgkaaGreatZp04
import Derived.Test.YtpedbdicjgdgkaaGreatZp06
import Derived.Test.YtpedbdicjgdgkaaGreatZp03
import Derived.RangeFuncLeaves
import Derived.RangeFuncIn
import Derived.OrdersIn
import Derived.Below
set_option linter.unusedVariables false
set_option linter.unusedSimpArgs false
/- The sources on which a proof rests: both sides. -/
namespace Go.Proofs.YtpedbdicjgdgkaaGreat
open Go Go.RowKit

def idxs (ls : List Lm) (us : List Us) : Bool := us.all fun u => inB 0 ((ls.length : Int) - 1) u.l
def lims (ls : List Lm) (us : List Us) : List Lm := us.map fun u => lmI ls u.l
/-- What Rests answers: the error's number, the sources. -/
def rsE (many : Int) (ls : List Lm) (us : List Us) : Int := if ckS many ls = 0 then (if idxs ls us = true then 0 else 24) else ckS many ls
def rsV (many : Int) (ls : List Lm) (us : List Us) : List Int := if ckS many ls = 0 then (if idxs ls us = true then srcs (lims ls us) else []) else []
theorem lims_snoc (ls : List Lm) (us : List Us) (u : Us) : lims ls (us ++ [u]) = lims ls us ++ [lmI ls u.l] := by simp [lims]
theorem srcs_snoc (ls : List Lm) (l : Lm) : srcs (ls ++ [l]) = insS (srcs ls) l.y := by simp [srcs, List.foldl_append]
theorem idxs_no {ls : List Lm} {us : List Us} (k : Nat) (hk : k < us.length) (u : Us) (hu : usAt us k = u) (h : inB 0 ((ls.length : Int) - 1) u.l = false) : idxs ls us = false := by
  have e : us[k] = u := by rw [← hu]; simp [usAt, hk]
  exact all_false _ us k hk (by rw [e]; exact h)
theorem lims_FL {ls : List Lm} {us : List Us} (h : ∀ l ∈ ls, FL l) (hi : ∀ u ∈ us, inB 0 ((ls.length : Int) - 1) u.l = true) : ∀ l ∈ lims ls us, FL l := by
  intro l hl
  obtain ⟨u, hu, rfl⟩ := List.mem_map.1 hl
  have := hi u hu
  simp only [inB, decide_eq_true_eq] at this
  exact h _ (lmI_mem this.1 this.2)
theorem nil_isL (w : World) : IsL w (.slice none 0 0) [] := ⟨none, 0, rfl, Nat.le_refl _, Nat.zero_le _, by simp, fun h => absurd rfl h⟩

set_option maxRecDepth 100000 in
set_option maxHeartbeats 8000000 in
theorem rests_w (many : Int) (a : Option Addr) (n cap : Nat) (ls : List Lm) (B : Int) (au : Option Addr) (nu cu : Nat) (us : List Us) (w : World)
    (hS : IsS w (.slice a n cap) ls) (hU : IsU w (.slice au nu cu) us) (hbig : us.length * 16 ≤ 140737488355328) :
    Calls Tryz.prog 43 #[.agg #[.int .i64 many, .slice a n cap], .agg #[.int .i64 B, .slice au nu cu]] w fun e w' => ∃ v, e = .returned (.tuple #[v, .int .i64 (rsE many ls us)]) ∧ Nice v ∧ IsL w' v (rsV many ls us) ∧ Below w.heap.size w w' := by
  have HAK := fun (X : World) => fun (hX : Below w.heap.size w X) => hide (scheck_w many a n cap ls X (hS.below hX))
  obtain ⟨a', cap', hv, s1, s2, s3, s4⟩ := hS
  cases hv
  obtain ⟨au', cu', hv, g1, g2, g3, g4⟩ := hU
  cases hv
  unfold maxLen at s2 g2
  have HUF : Hid (∀ u ∈ us, FU u) := g3
  have HLF : Hid (∀ l ∈ ls, FL l) := s3
  have HBIG := hide hbig
  clear s3 g3 hbig
  have KC := hide (show ∀ V, Below (w.heap.size + 1 + 1) ((w.alloc (.cells #[.int .i64 many, .slice a ls.length cap] 24)).alloc (.cells #[.int .i64 B, .slice au us.length cu] 54)) V → V.cell? ⟨w.heap.size, 1, none⟩ = some (.slice a ls.length cap) ∧ V.cell? ⟨w.heap.size + 1, 1, none⟩ = some (.slice au us.length cu) from fun V hV => by
    have c : ∀ b o u, b < w.heap.size + 1 + 1 → ((w.alloc (.cells #[.int .i64 many, .slice a ls.length cap] 24)).alloc (.cells #[.int .i64 B, .slice au us.length cu] 54)).cell? ⟨b, o, none⟩ = some u → V.cell? ⟨b, o, none⟩ = some u := fun b o u hlt h => (hV.cell (p := ⟨b, o, none⟩) hlt).trans h
    exact ⟨c _ _ _ (by omega) ((cell_old (by simp)).trans (cell_new rfl)), c _ _ _ (by omega) (cell_new (by simp))⟩)
  have HBS : Hid (Below w.heap.size w ((w.alloc (.cells #[.int .i64 many, .slice a ls.length cap] 24)).alloc (.cells #[.int .i64 B, .slice au us.length cu] 54))) := hide (((Below.refl _ w).alloc (Nat.le_refl _) _).alloc (by simp) _)
  by_cases hck : ckS many ls = 0
  rotate_left
  · have HE : Hid (rsE many ls us = ckS many ls ∧ rsV many ls us = []) := by constructor <;> simp [rsE, rsV, hck]
    obtain ⟨r, hr⟩ : ∃ r, ckS many ls = r := ⟨_, rfl⟩
    have HAK' := fun (X : World) => fun (hX : Below w.heap.size w X) => hide (show Calls Tryz.prog 15 #[.agg #[.int .i64 many, .slice a ls.length cap]] X fun e w' => e = .returned (.int .i64 r) ∧ Below X.heap.size X w' from by have := (HAK X hX).out; rw [hr] at this; exact this)
    rw [hr] at hck HE
    have h1 : (r != 0) = true := by simpa using hck
    clear hr hck HAK
    go_enter Tryz.func43, Tryz.ntmps43
    go_wp2_with (go_at_call 15; refine (HAK' _ HBS.out).out.mono ?_; rintro e w1 ⟨rfl, hb1⟩)
    go_ret2
    exact ⟨_, (by rw [HE.out.1]; rfl), .inl rfl, by rw [HE.out.2]; exact nil_isL _, by have := HBS.out; exact (by repeat (first | exact Below.refl _ _ | assumption | refine Below.alloc ?_ (by first | omega | (simp; omega) | simp) _ | refine Below.setCell ?_ (by first | omega | (simp; omega) | simp) _ | refine below_drewN ?_ _ | refine Below.drew ?_ | refine back ?_ (by assumption)))⟩
  have HAK' := fun (X : World) => fun (hX : Below w.heap.size w X) => hide (show Calls Tryz.prog 15 #[.agg #[.int .i64 many, .slice a ls.length cap]] X fun e w' => e = .returned (.int .i64 0) ∧ Below X.heap.size X w' from by have := (HAK X hX).out; rw [hck] at this; exact this)
  have HE : Hid ((rsE many ls us = if idxs ls us = true then 0 else 24) ∧ rsV many ls us = if idxs ls us = true then srcs (lims ls us) else []) := by constructor <;> simp [rsE, rsV, hck]
  clear hck HAK
  go_enter Tryz.func43, Tryz.ntmps43
  go_wp2_with (go_at_call 15; refine (HAK' _ HBS.out).out.mono ?_; rintro e w1 ⟨rfl, hb1⟩; have hz1 := hb1.size; simp at hz1; have hb1' := hb1.mono (B' := w.heap.size + 1 + 1) (by simp); obtain ⟨q0, q1⟩ := KC.out _ hb1'; have hz2 : w.heap.size + 1 < w1.heap.size := (by omega); have hz3 : w.heap.size < w1.heap.size := (by omega))
  have HB0 := hide (HBS.out.trans (hb1'.mono (by omega)))
  have HZ : Hid (w.heap.size + 1 + 1 ≤ w1.heap.size) := hide (by omega)
  clear hb1 hb1' HAK' KC HBS hz1
  go_outline
  go_loopw [7, 18] (fun o i wr => ∃ k : Nat, i = .int .i64 k ∧ k ≤ us.length ∧ Hid (OwI w1.heap.size wr o ((lims ls (us.take k)).map Lm.y)) ∧ Hid (∀ u ∈ us.take k, inB 0 ((ls.length : Int) - 1) u.l = true) ∧ Hid (Below w1.heap.size w1 wr)) (fun _ i _ => us.length - (intOf i).toNat)
  case atStart => exact ⟨0, rfl, Nat.zero_le _, hide (OwI.nil _ _), hide (by simp), hide (Below.refl _ _)⟩
  case round =>
    obtain ⟨k, rfl, hk, ho, hall, hbw⟩ := hrel
    have q0' := (hbw.out.cell (p := ⟨w.heap.size, 1, none⟩) (by show w.heap.size < _; omega)).trans q0
    have q1' := (hbw.out.cell (p := ⟨w.heap.size + 1, 1, none⟩) (by show w.heap.size + 1 < _; omega)).trans q1
    have HBW : Hid (Below w.heap.size w wr) := hide (HB0.out.trans (hbw.out.mono (by omega)))
    have hz5 : w.heap.size < wr.heap.size := by have := hbw.out.size; omega
    have hz6 : w.heap.size + 1 < wr.heap.size := by have := hbw.out.size; omega
    by_cases hlt : k < us.length
    · obtain ⟨b, off, rfl, hbl, hc⟩ := g4 (by intro h; subst h; simp at hlt)
      obtain ⟨u, hu⟩ : ∃ u, usAt us k = u := ⟨_, rfl⟩
      have hck := (hc k hlt).below HBW.out hbl
      rw [hu] at hck
      obtain ⟨d1, d2⟩ := hck
      have HD : Hid (us.take (k + 1) = us.take k ++ [u]) := by rw [← hu]; exact us_take us k hlt
      have HU := hide hu
      have hbw' : b < wr.heap.size := by have := HBW.out.size; omega
      clear hu hc
      obtain ⟨x, t, rfl⟩ : ∃ x t : Int, u = ⟨x, t⟩ := ⟨u.l, u.t, rfl⟩
      simp only at d1 d2
      cases e1 : inB 0 ((ls.length : Int) - 1) x
      · have HN : Hid (idxs ls us = false) := idxs_no k hlt _ HU.out e1
        have HEE : Hid (rsE many ls us = 24 ∧ rsV many ls us = []) := ⟨by rw [HE.out.1, HN.out]; rfl, by rw [HE.out.2, HN.out]; rfl⟩
        have hin := fun w => hide (inside_w e1 w)
        clear e1 HE HN HD ho hall
        go_wp2_with (go_at_call 63; with_reducible refine (hin _).out.mono ?_; rintro e w2 ⟨rfl, rfl⟩)
        go_ret2
        exact ⟨_, (by rw [HEE.out.1]; rfl), .inl rfl, by rw [HEE.out.2]; exact nil_isL _, by have := HBW.out; exact (by repeat (first | exact Below.refl _ _ | assumption | refine Below.alloc ?_ (by first | omega | (simp; omega) | simp) _ | refine Below.setCell ?_ (by first | omega | (simp; omega) | simp) _ | refine below_drewN ?_ _ | refine Below.drew ?_ | refine back ?_ (by assumption)))⟩
      have hin := fun w => hide (inside_w e1 w)
      have HN1 : Hid (∀ u ∈ us.take (k + 1), inB 0 ((ls.length : Int) - 1) u.l = true) := by
        intro u hu
        rw [HD.out] at hu
        rcases List.mem_append.1 hu with hu | hu
        · exact hall.out u hu
        · rw [List.mem_singleton.1 hu]; exact e1
      simp only [inB, decide_eq_true_eq] at e1
      obtain ⟨j, rfl⟩ : ∃ j : Nat, x = j := ⟨x.toNat, by omega⟩
      have hjl : j < ls.length := by omega
      obtain ⟨b2, off2, rfl, hbl2, hc2⟩ := s4 (by intro h; subst h; simp at hjl)
      obtain ⟨l, hl⟩ : ∃ l, lmAt ls j = l := ⟨_, rfl⟩
      have hck2 := (hc2 j hjl).below HBW.out hbl2
      rw [hl] at hck2
      obtain ⟨m1, m2, m3, m4⟩ := hck2
      have HL : Hid (lmI ls j = l) := hl
      have hbw2 : b2 < wr.heap.size := by have := HBW.out.size; omega
      have hfl : FL l := by have := HLF.out (lmAt ls j) (by simp [lmAt, hjl]); rw [hl] at this; exact this
      have HFL := hide hfl
      have hj3 : (j : Int) < ls.length := by omega
      have HLL : Hid (lims ls (us.take (k + 1)) = lims ls (us.take k) ++ [l]) := by show _ = _; rw [HD.out, lims_snoc]; show _ ++ [lmI ls (j : Int)] = _; rw [HL.out]
      have HLEN : Hid ((lims ls (us.take k)).length ≤ k) := by show _ ≤ _; simp [lims]; omega
      clear hc2 hl hfl hall
      go_wp2_with (first
        | (go_at_call 63; with_reducible refine (hin _).out.mono ?_; rintro e w2 ⟨rfl, rfl⟩)
        | (at_builtin; go_loud (refine catI_w rfl (.tmp 30) (.tmp 38) rfl w1.heap.size ((wr.alloc (.cells #[.int .i64 j, .int .i64 t] 103)).alloc (.cells #[.int .i64 l.y] 3)) _ (.slice (some ⟨wr.heap.size + 1, 0, none⟩) 1 1) ((lims ls (us.take k)).map Lm.y) [l.y] (World.ownsRow.alloc (World.ownsRow.alloc ho.out _) _) rfl rfl (by have := one_src (W := wr.alloc (.cells #[.int .i64 j, .int .i64 t] 103)) (n := l.y) rfl; rw [World.size_alloc] at this; exact this) (by have := HLEN.out; have := HBIG.out; simp only [List.length_map, List.length_cons, List.length_nil]; omega) (by have := hbw.out.size; simp; omega) ?_; intro v2 w2 ho2 hg2 _ _; have hb2 := ((hbw.out.alloc hbw.out.size (.cells #[.int .i64 j, .int .i64 t] 103)).alloc (by have := hbw.out.size; simp; omega) (.cells #[.int .i64 l.y] 3)).trans (grown_bel (World.ownsRow.alloc (World.ownsRow.alloc ho.out _) _) (by have := hbw.out.size; simp; omega) hg2); have HO2 := hide ho2; have HB2 := hide hb2; clear ho2 hb2 hg2)))
      exact ⟨⟨k + 1, by go_num, by omega, by rw [HLL.out, List.map_append]; exact HO2, HN1, HB2⟩, by simp [intOf]; omega⟩
    · have hkl : k = us.length := by omega
      subst hkl
      have hT : us.take us.length = us := List.take_length
      rw [hT] at ho hall
      have HN : Hid (idxs ls us = true) := List.all_eq_true.2 hall.out
      have HEE : Hid (rsE many ls us = 0 ∧ rsV many ls us = srcs (lims ls us)) := ⟨by rw [HE.out.1, HN.out]; rfl, by rw [HE.out.2, HN.out]; rfl⟩
      have HR := hide (rising_w w1.heap.size _ _ wr ho.out hbw.out.size (by have := HBIG.out; simp [lims]; omega))
      have HLFF := hide (lims_FL HLF.out hall.out)
      clear HE HN hall ho
      go_wp2_with (go_at_call 65; go_loud (refine (HR.out).mono ?_; rintro e w2 ⟨v2, rfl, ho2, hb2⟩; have HO2 := hide ho2; clear ho2))
      go_ret2
      refine ⟨_, (by rw [HEE.out.1]; rfl), own_nice HO2.out, ?_, HB0.out.trans ((hbw.out.trans hb2).mono (by omega))⟩
      have h9 := HO2.out.isL (fun x hx => ?_)
      · rw [rsn_srcs] at h9; rw [HEE.out.2]; exact h9
      · rw [rsn_mem] at hx
        obtain ⟨l, hl, rfl⟩ := List.mem_map.1 hx
        exact (HLFF.out l hl).2.2.2
end Go.Proofs.YtpedbdicjgdgkaaGreat

/- The sources on which a proof rests: the reference's side. -/
namespace Go.Proofs.YtpedbdicjgdgkaaGreat
open Go Go.RowKit

set_option maxRecDepth 100000 in
set_option maxHeartbeats 8000000 in
theorem rrests_w (many : Int) (a : Option Addr) (n cap : Nat) (ls : List Lm) (B : Int) (au : Option Addr) (nu cu : Nat) (us : List Us) (w : World)
    (hS : IsS w (.slice a n cap) ls) (hU : IsU w (.slice au nu cu) us) (hbig : us.length * 16 ≤ 140737488355328) :
    Calls Tryz.prog 44 #[.agg #[.int .i64 many, .slice a n cap], .agg #[.int .i64 B, .slice au nu cu]] w fun e w' => ∃ v, e = .returned (.tuple #[v, .int .i64 (rsE many ls us)]) ∧ Nice v ∧ IsL w' v (rsV many ls us) ∧ Below w.heap.size w w' := by
  have HAK := fun (X : World) => fun (hX : Below w.heap.size w X) => hide (rscheck_w many a n cap ls X (hS.below hX))
  obtain ⟨a', cap', hv, s1, s2, s3, s4⟩ := hS
  cases hv
  obtain ⟨au', cu', hv, g1, g2, g3, g4⟩ := hU
  cases hv
  unfold maxLen at s2 g2
  have HUF : Hid (∀ u ∈ us, FU u) := g3
  have HLF : Hid (∀ l ∈ ls, FL l) := s3
  have HBIG := hide hbig
  clear s3 g3 hbig
  have KC := hide (show ∀ V, Below (w.heap.size + 1 + 1) ((w.alloc (.cells #[.int .i64 many, .slice a ls.length cap] 24)).alloc (.cells #[.int .i64 B, .slice au us.length cu] 54)) V → V.cell? ⟨w.heap.size, 1, none⟩ = some (.slice a ls.length cap) ∧ V.cell? ⟨w.heap.size + 1, 1, none⟩ = some (.slice au us.length cu) from fun V hV => by
    have c : ∀ b o u, b < w.heap.size + 1 + 1 → ((w.alloc (.cells #[.int .i64 many, .slice a ls.length cap] 24)).alloc (.cells #[.int .i64 B, .slice au us.length cu] 54)).cell? ⟨b, o, none⟩ = some u → V.cell? ⟨b, o, none⟩ = some u := fun b o u hlt h => (hV.cell (p := ⟨b, o, none⟩) hlt).trans h
    exact ⟨c _ _ _ (by omega) ((cell_old (by simp)).trans (cell_new rfl)), c _ _ _ (by omega) (cell_new (by simp))⟩)
  have HBS : Hid (Below w.heap.size w ((w.alloc (.cells #[.int .i64 many, .slice a ls.length cap] 24)).alloc (.cells #[.int .i64 B, .slice au us.length cu] 54))) := hide (((Below.refl _ w).alloc (Nat.le_refl _) _).alloc (by simp) _)
  by_cases hck : ckS many ls = 0
  rotate_left
  · have HE : Hid (rsE many ls us = ckS many ls ∧ rsV many ls us = []) := by constructor <;> simp [rsE, rsV, hck]
    obtain ⟨r, hr⟩ : ∃ r, ckS many ls = r := ⟨_, rfl⟩
    have HAK' := fun (X : World) => fun (hX : Below w.heap.size w X) => hide (show Calls Tryz.prog 16 #[.agg #[.int .i64 many, .slice a ls.length cap]] X fun e w' => e = .returned (.int .i64 r) ∧ Below X.heap.size X w' from by have := (HAK X hX).out; rw [hr] at this; exact this)
    rw [hr] at hck HE
    have h1 : (r != 0) = true := by simpa using hck
    clear hr hck HAK
    go_enter Tryz.func44, Tryz.ntmps44
    go_wp2_with (go_at_call 16; refine (HAK' _ HBS.out).out.mono ?_; rintro e w1 ⟨rfl, hb1⟩)
    go_ret2
    exact ⟨_, (by rw [HE.out.1]; rfl), .inl rfl, by rw [HE.out.2]; exact nil_isL _, by have := HBS.out; exact (by repeat (first | exact Below.refl _ _ | assumption | refine Below.alloc ?_ (by first | omega | (simp; omega) | simp) _ | refine Below.setCell ?_ (by first | omega | (simp; omega) | simp) _ | refine below_drewN ?_ _ | refine Below.drew ?_ | refine back ?_ (by assumption)))⟩
  have HAK' := fun (X : World) => fun (hX : Below w.heap.size w X) => hide (show Calls Tryz.prog 16 #[.agg #[.int .i64 many, .slice a ls.length cap]] X fun e w' => e = .returned (.int .i64 0) ∧ Below X.heap.size X w' from by have := (HAK X hX).out; rw [hck] at this; exact this)
  have HE : Hid ((rsE many ls us = if idxs ls us = true then 0 else 24) ∧ rsV many ls us = if idxs ls us = true then srcs (lims ls us) else []) := by constructor <;> simp [rsE, rsV, hck]
  clear hck HAK
  go_enter Tryz.func44, Tryz.ntmps44
  go_wp2_with (go_at_call 16; refine (HAK' _ HBS.out).out.mono ?_; rintro e w1 ⟨rfl, hb1⟩; have hz1 := hb1.size; simp at hz1; have hb1' := hb1.mono (B' := w.heap.size + 1 + 1) (by simp); obtain ⟨q0, q1⟩ := KC.out _ hb1'; have hz2 : w.heap.size + 1 < w1.heap.size := (by omega); have hz3 : w.heap.size < w1.heap.size := (by omega))
  have HB0 := hide (HBS.out.trans (hb1'.mono (by omega)))
  have HZ : Hid (w.heap.size + 1 + 1 ≤ w1.heap.size) := hide (by omega)
  clear hb1 hb1' HAK' KC HBS hz1
  go_outline
  go_loopw [7, 18] (fun o i wr => ∃ k : Nat, i = .int .i64 k ∧ k ≤ us.length ∧ Hid (Nice o ∧ IsL wr o (srcs (lims ls (us.take k)))) ∧ Hid (∀ u ∈ us.take k, inB 0 ((ls.length : Int) - 1) u.l = true) ∧ Hid (Below w1.heap.size w1 wr)) (fun _ i _ => us.length - (intOf i).toNat)
  case atStart => exact ⟨0, rfl, Nat.zero_le _, hide (⟨.inl rfl, nil_isL _⟩), hide (by simp), hide (Below.refl _ _)⟩
  case round =>
    obtain ⟨k, rfl, hk, ho, hall, hbw⟩ := hrel
    have q0' := (hbw.out.cell (p := ⟨w.heap.size, 1, none⟩) (by show w.heap.size < _; omega)).trans q0
    have q1' := (hbw.out.cell (p := ⟨w.heap.size + 1, 1, none⟩) (by show w.heap.size + 1 < _; omega)).trans q1
    have HBW : Hid (Below w.heap.size w wr) := hide (HB0.out.trans (hbw.out.mono (by omega)))
    have hz5 : w.heap.size < wr.heap.size := by have := hbw.out.size; omega
    have hz6 : w.heap.size + 1 < wr.heap.size := by have := hbw.out.size; omega
    by_cases hlt : k < us.length
    · obtain ⟨b, off, rfl, hbl, hc⟩ := g4 (by intro h; subst h; simp at hlt)
      obtain ⟨u, hu⟩ : ∃ u, usAt us k = u := ⟨_, rfl⟩
      have hck := (hc k hlt).below HBW.out hbl
      rw [hu] at hck
      obtain ⟨d1, d2⟩ := hck
      have HD : Hid (us.take (k + 1) = us.take k ++ [u]) := by rw [← hu]; exact us_take us k hlt
      have HU := hide hu
      have hbw' : b < wr.heap.size := by have := HBW.out.size; omega
      clear hu hc
      obtain ⟨x, t, rfl⟩ : ∃ x t : Int, u = ⟨x, t⟩ := ⟨u.l, u.t, rfl⟩
      simp only at d1 d2
      cases e1 : inB 0 ((ls.length : Int) - 1) x
      · have HN : Hid (idxs ls us = false) := idxs_no k hlt _ HU.out e1
        have HEE : Hid (rsE many ls us = 24 ∧ rsV many ls us = []) := ⟨by rw [HE.out.1, HN.out]; rfl, by rw [HE.out.2, HN.out]; rfl⟩
        have hin := fun w => hide (rwithin_w e1 w)
        clear e1 HE HN HD ho hall
        go_wp2_with (go_at_call 64; with_reducible refine (hin _).out.mono ?_; rintro e w2 ⟨rfl, rfl⟩)
        go_ret2
        exact ⟨_, (by rw [HEE.out.1]; rfl), .inl rfl, by rw [HEE.out.2]; exact nil_isL _, by have := HBW.out; exact (by repeat (first | exact Below.refl _ _ | assumption | refine Below.alloc ?_ (by first | omega | (simp; omega) | simp) _ | refine Below.setCell ?_ (by first | omega | (simp; omega) | simp) _ | refine below_drewN ?_ _ | refine Below.drew ?_ | refine back ?_ (by assumption)))⟩
      have hin := fun w => hide (rwithin_w e1 w)
      have HN1 : Hid (∀ u ∈ us.take (k + 1), inB 0 ((ls.length : Int) - 1) u.l = true) := by
        intro u hu
        rw [HD.out] at hu
        rcases List.mem_append.1 hu with hu | hu
        · exact hall.out u hu
        · rw [List.mem_singleton.1 hu]; exact e1
      simp only [inB, decide_eq_true_eq] at e1
      obtain ⟨j, rfl⟩ : ∃ j : Nat, x = j := ⟨x.toNat, by omega⟩
      have hjl : j < ls.length := by omega
      obtain ⟨b2, off2, rfl, hbl2, hc2⟩ := s4 (by intro h; subst h; simp at hjl)
      obtain ⟨l, hl⟩ : ∃ l, lmAt ls j = l := ⟨_, rfl⟩
      have hck2 := (hc2 j hjl).below HBW.out hbl2
      rw [hl] at hck2
      obtain ⟨m1, m2, m3, m4⟩ := hck2
      have HL : Hid (lmI ls j = l) := hl
      have hbw2 : b2 < wr.heap.size := by have := HBW.out.size; omega
      have hfl : FL l := by have := HLF.out (lmAt ls j) (by simp [lmAt, hjl]); rw [hl] at this; exact this
      have HFL := hide hfl
      have hj3 : (j : Int) < ls.length := by omega
      have HLL : Hid (lims ls (us.take (k + 1)) = lims ls (us.take k) ++ [l]) := by show _ = _; rw [HD.out, lims_snoc]; show _ ++ [lmI ls (j : Int)] = _; rw [HL.out]
      have HLEN : Hid ((lims ls (us.take k)).length ≤ k) := by show _ ≤ _; simp [lims]; omega
      clear hc2 hl hfl hall
      have hput := fun X : World => fun hX : Below wr.heap.size wr X => hide (put_w _ (srcs (lims ls (us.take k))) l.y X (ho.out.2.below hX) ho.out.1 (srcs_inc _) (by have := HBIG.out; have := HLEN.out; have := srcs_len (lims ls (us.take k)); omega) HFL.out.2.2.2)
      go_wp2_with (first
        | (go_at_call 64; with_reducible refine (hin _).out.mono ?_; rintro e w2 ⟨rfl, rfl⟩)
        | (go_at_call 66; refine (hput _ (by repeat (first | exact Below.refl _ _ | assumption | refine Below.alloc ?_ (by first | omega | (simp; omega) | simp) _ | refine Below.setCell ?_ (by first | omega | (simp; omega) | simp) _ | refine below_drewN ?_ _ | refine Below.drew ?_ | refine back ?_ (by assumption)))).out.mono ?_; rintro e w2 ⟨v2, rfl, hn2, hi2, hb2⟩; have HN2 := hide hn2; have HI2 := hide hi2; have HB2 := hide (hbw.out.trans (((Below.refl wr.heap.size wr).alloc (Nat.le_refl _) (.cells #[.int .i64 j, .int .i64 t] 103)).trans (hb2.mono (by simp)) |>.mono hbw.out.size)); clear hn2 hi2 hb2))
      exact ⟨⟨k + 1, by go_num, by omega, ⟨HN2.out, by rw [HLL.out, srcs_snoc]; exact HI2.out⟩, HN1, HB2⟩, by simp [intOf]; omega⟩
    · have hkl : k = us.length := by omega
      subst hkl
      have hT : us.take us.length = us := List.take_length
      rw [hT] at ho hall
      have HN : Hid (idxs ls us = true) := List.all_eq_true.2 hall.out
      have HEE : Hid (rsE many ls us = 0 ∧ rsV many ls us = srcs (lims ls us)) := ⟨by rw [HE.out.1, HN.out]; rfl, by rw [HE.out.2, HN.out]; rfl⟩
      clear HE HN hall
      go_wp2
      go_ret2
      exact ⟨_, (by rw [HEE.out.1]; rfl), ho.out.1, by rw [HEE.out.2]; exact ho.out.2, HBW.out⟩
end Go.Proofs.YtpedbdicjgdgkaaGreat

/- Two proofs that read alike are the same. -/
namespace Go.Proofs.YtpedbdicjgdgkaaGreat
open Go Go.RowKit

set_option maxRecDepth 100000 in
set_option maxHeartbeats 4000000 in
theorem sameProof_w (B : Int) (v1 v2 : Value) (us : List Us) (w : World) (h1 : IsU w v1 us) (h2 : IsU w v2 us) :
    Calls Tryz.prog 48 #[.agg #[.int .i64 B, v1], .agg #[.int .i64 B, v2]] w fun e w' => e = .returned (.bool true) ∧ Below w.heap.size w w' := by
  obtain ⟨a1, c1, rfl, l1, m1, _, k1⟩ := h1
  obtain ⟨a2, c2, rfl, l2, m2, _, k2⟩ := h2
  unfold maxLen at m1 m2
  go_enter Tryz.func48, Tryz.ntmps48
  go_wp2
  obtain ⟨W0, hW0⟩ : ∃ W, (w.alloc (.cells #[.int .i64 B, .slice a1 us.length c1] 54)).alloc (.cells #[.int .i64 B, .slice a2 us.length c2] 54) = W := ⟨_, rfl⟩
  have e1 : W0.cell? ⟨w.heap.size, 1, none⟩ = some (.slice a1 us.length c1) := by rw [← hW0]; simp
  have e2 : W0.cell? ⟨w.heap.size + 1, 1, none⟩ = some (.slice a2 us.length c2) := by rw [← hW0]; simp
  have hB : Below w.heap.size w W0 := by rw [← hW0]; exact (by repeat (first | exact Below.refl _ _ | assumption | refine Below.alloc ?_ (by first | omega | (simp; omega) | simp) _ | refine Below.setCell ?_ (by first | omega | (simp; omega) | simp) _ | refine below_drewN ?_ _ | refine Below.drew ?_ | refine back ?_ (by assumption)))
  rw [hW0]
  go_loopw [23] (fun i wr => ∃ k n : Nat, i = .int .i64 k ∧ k ≤ us.length ∧ wr = W0.drewN n) (fun i _ => us.length - (intOf i).toNat)
  case atStart => exact ⟨0, 0, rfl, Nat.zero_le _, rfl⟩
  case round =>
    obtain ⟨k, n, rfl, hk, rfl⟩ := hrel
    by_cases hlt : k < us.length
    · have hne : us ≠ [] := by intro h; subst h; simp at hlt
      obtain ⟨b1, o1, rfl, g1, q1⟩ := k1 hne
      obtain ⟨b2, o2, rfl, g2, q2⟩ := k2 hne
      obtain ⟨d1, d2⟩ := (q1 k hlt).below hB g1
      obtain ⟨f1, f2⟩ := (q2 k hlt).below hB g2
      clear q1 q2 hne hW0
      have hl : (k : Int) < us.length := by omega
      obtain ⟨x, hx⟩ : ∃ x, usAt us k = x := ⟨_, rfl⟩
      rw [hx] at d1 d2 f1 f2
      clear hx
      go_wp2
      go_quiet (fail)
      go_wp2
      go_roundw
      case rel => exact ⟨k + 1, _, by go_num, by omega, (by first | rfl | exact World.drewN_drewN _ _ _)⟩
      case measure => simp [intOf]; omega
    · have hl : ¬ ((k : Int) < us.length) := by omega
      go_wp2
      go_ret
      exact ⟨rfl, below_drewN hB _⟩
end Go.Proofs.YtpedbdicjgdgkaaGreat

/- An evaluator of calls that need nothing from outside: a function of the program is turned into a small code and run on memory of its own; the texts beside it prove that the program, in whatever world, does the same. No program here. -/
namespace Go.Proofs.YtpedbdicjgdgkaaGreat.Ev
open Go

/-! Trees by number. -/
inductive BT (α : Type) where
  | leaf
  | node (a : α) (l r : BT α)

def sel {α : Type} (b : Bool) (x y : α) : α := match b with | true => x | false => y

def BT.get {α : Type} : BT α → Nat → Option α
  | .leaf, _ => none
  | .node a l r, n => if n = 0 then some a else if n % 2 = 1 then l.get (n / 2) else r.get (n / 2 - 1)
/-- One more, at the next number. -/
def BT.add {α : Type} : BT α → Nat → α → BT α
  | .leaf, n, v => if n = 0 then .node v .leaf .leaf else .leaf
  | .node a l r, n, v => if n = 0 then .node a l r else if n % 2 = 1 then .node a (l.add (n / 2) v) r else .node a l (r.add (n / 2 - 1) v)
def BT.adds {α : Type} : BT α → Nat → List α → BT α
  | t, _, [] => t
  | t, n, v :: l => (t.add n v).adds (n + 1) l
def BT.ofList {α : Type} (l : List α) : BT α := BT.adds .leaf 0 l

inductive Out where
  | normal | ret | exit (id : Nat) | goto (l : Nat)

/-- Where an operation finds a value. -/
inductive X where
  | t (i : Nat)
  | c (v : Value)

inductive COp where
  | mov (x : X)
  | pick (c a b : X)
  | new (e n : Nat) (z : BT Value)
  | box (e : Nat) (x : X)
  | build (z : List Value) (ps : List (Nat × Nat × X))
  | lit (e len n : Nat) (z : List Value) (ps : List (Nat × Nat × X))
  | ld (a : X) (n : Option Nat)
  | st (a x : X) (n : Option Nat)
  | nilc (x : X)
  | bin (b : BinOp) (t d : Nat) (x y : X)
  | un (u : UnOp) (x : X)
  | conv (a b : Nat) (x : X)
  | mini (t : Nat) (x : X)
  | tas (x : X) (a b : Nat) (ok : Bool)
  | bi (b : Builtin) (ts : Array Nat) (t : Nat) (l : List X)
  | ixs (t : Nat) (x i : X)
  | fn (f : Nat) (p c : List X)
  | mks (e size bytes : Nat) (z : List Value) (l c : X)
  | slc (e size : Nat) (x : X) (lo hi mx : Option X)
  | slcn (t : Nat) (x : X) (lo hi mx : Option X)
  | fa (x : X) (off : Nat)
  | fld (x : X) (off : Nat) (n : Option Nat)
  | ia (x i : X) (size : Nat)
  | iaa (x i : X) (len size : Nat)
  | ix (x i : X) (len size : Nat) (n : Option Nat)
  | ext (x : X) (i : Nat)
  | len (x : X)
  | cap (x : X)
  | app (e size bytes : Nat) (z : List Value) (ints : Bool) (x y : X)
  | copy (size : Nat) (x y : X)
  | clear (size : Nat) (z : List Value) (x : X)
  | again (a : X) (n : Option Nat) (d : Nat)
  | againS (e size : Nat) (x : X) (lo hi mx : Option X) (d : Nat)
  | call (f : X) (args : List X)
  | bad

structure Item where
  g : Option (Nat × Bool)
  d : Option Nat
  op : COp

inductive CC where
  | skip | ret
  | exit (id : Nat)
  | goto (l : Nat)
  | seq (a b : CC)
  | cond (x : X) (a b : CC)
  | block (id : Nat) (b : CC)
  | loop (b : CC)
  | scope (b : CC)
  | items (l : List Item)
  | range (f : X) (ps : List Nat) (assign body : CC)
  | bad

inductive CObj where
  | dead
  | cells (n : Nat) (c : BT Value) (e : Nat) (op : Bool)
  | loop (s : LoopState) (pend : Out) (T : BT Value) (ps : List Nat) (assign body : CC) (q : Nat)
  | deferred (d : Bool)

structure St where
  h : BT CObj
  n : Nat
/-- The cap of a slice whose row came of an append: it is not known. -/
def OPEN : Nat := 18446744073709551616

/-! Values without addresses. -/
mutual
def flat : Value → Bool
  | .bool _ | .int _ _ | .float _ _ | .complex _ _ _ | .string _ | .nilFunc | .nilIface => true
  | .pointer none | .map none | .chan none => true
  | .slice none _ c => Nat.blt c OPEN
  | .pointer (some _) | .slice (some _) _ _ | .map (some _) | .chan (some _) => false
  | .func fn first captured => (match fn with | .func _ => true | _ => false) && flatA first && flatA captured
  | .iface _ v => flat v
  | .agg cs => flatA cs
  | .tuple vs => flatA vs
def flatA : Array Value → Bool
  | ⟨l⟩ => flatL l
def flatL : List Value → Bool
  | [] => true
  | v :: l => flat v && flatL l
end

/-! ## Turning the program's code -/
def cx : Operand → Option X
  | .tmp t => some (.t t)
  | .const v => sel (flat v) (some (.c v)) none
  | .func f => some (.c (.func (.func f) #[] #[]))
  | .global _ => none
def cxs : List Operand → Option (List X)
  | [] => some []
  | x :: l => match cx x, cxs l with
    | some x, some l => some (x :: l)
    | _, _ => none
def cxo : Option Operand → Option (Option X)
  | none => some none
  | some x => (cx x).map some
def cparts (place : Nat → Option (Nat × Nat)) : List (Nat × Operand) → Option (List (Nat × Nat × X))
  | [] => some []
  | (i, x) :: l => match place i, cx x, cparts place l with
    | some (o, n), some x, some l => some ((o, n, x) :: l)
    | _, _, _ => none

def oneCell : Value → Bool
  | .agg _ | .tuple _ => false
  | _ => true
def zeroOf (P : Program) (t : TypeId) : Option (Array Value) :=
  match P.info? t with
  | some i => match i.zero with
    | some v => sel (flatA v.cells && v.cells.toList.all oneCell) (some v.cells) none
    | none => none
  | none => none
/-- How many cells a part of type t takes that is no single value: none if it is one. -/
def aggOf (P : Program) (t : TypeId) : Option (Option Nat) :=
  match P.underlying t, P.info? t with
  | some (.struct _), some i | some (.array _ _), some i => some (some i.size)
  | some _, some _ => some none
  | _, _ => none
def repeatN (z : List Value) : Nat → List Value
  | 0 => []
  | n + 1 => z ++ repeatN z n

def placesOf (P : Program) (fs : Array Field) (i : Nat) : Option (Nat × Nat) :=
  match fs[i]? with
  | some f => match P.info? f.type with
    | some inf => some (f.offset, inf.size)
    | none => none
  | none => none
/-- Parts that lie in n cells. -/
def inN (n : Nat) : List (Nat × Nat × X) → Bool
  | [] => true
  | (o, k, _) :: l => Nat.ble (o + k) n && inN n l

/-- What of a type may be nil: 1 a slice, 2 a pointer, 3 a function, 4 an interface value. -/
def nilKind (P : Program) (t : TypeId) : Nat :=
  match P.underlying t with
  | some (.slice _) => 1
  | some (.pointer _) => 2
  | some (.func _ _ _) => 3
  | some (.interface _) => 4
  | _ => 0

def compOp (P : Program) (o : Oper) : Option COp :=
  match o.op with
  | .move x | .assign x => (cx x).map .mov
  | .pick c a b => match cx c, cx a, cx b with
    | some c, some a, some b => some (.pick c a b)
    | _, _, _ => none
  | .alloc elem => (zeroOf P elem).map fun z => .new elem z.size (.ofList z.toList)
  | .box elem x => (cx x).map (.box elem)
  | .build t parts => match zeroOf P t, P.underlying t with
    | some z, some (.struct fs) => match cparts (placesOf P fs) parts.toList with
      | some ps => sel (inN z.size ps && fs.toList.all (fun f => (P.info? f.type).isSome)) (some (.build z.toList ps)) none
      | none => none
    | some z, some (.array _ e) => match P.info? e with
      | some i => match cparts (fun k => some (k * i.size, i.size)) parts.toList with
        | some ps => sel (inN z.size ps) (some (.build z.toList ps)) none
        | none => none
      | none => none
    | _, _ => none
  | .buildSlice t len parts => match P.underlying t with
    | some (.slice e) => match P.info? e, zeroOf P e with
      | some i, some z => match cparts (fun k => some (k * i.size, i.size)) parts.toList with
        | some ps => sel (inN (len * i.size) ps && Nat.beq z.size i.size && Nat.ble (len * i.size) 65536 && Nat.ble len 65536) (some (.lit e len (len * i.size) (repeatN z.toList len) ps)) none
        | none => none
      | _, _ => none
    | _ => none
  | .load t a => match aggOf P t, cx a with
    | some n, some a => some (.ld a n)
    | _, _ => none
  | .store t a x => match aggOf P t, P.info? t, cx a, cx x with
    | some n, some i, some a, some x => sel (match n with | none => Nat.beq i.size 1 | some _ => true) (some (.st a x n)) none
    | _, _, _, _ => none
  | .nilCheck x => (cx x).map .nilc
  | .binOp b t x y _ => match cx x, cx y with
    | some x, some y => some (.bin b t (nilKind P t) x y)
    | _, _ => none
  | .makeFunc (.func f) p c => match cxs p.toList, cxs c.toList with
    | some p, some c => some (.fn f p c)
    | _, _ => none
  | .makeSlice t l c => match P.underlying t, cx l, cx c with
    | some (.slice e), some l, some c => match P.info? e, zeroOf P e with
      | some i, some z => sel (Nat.beq z.size i.size) (some (.mks e i.size i.bytes z.toList l c)) none
      | _, _ => none
    | _, _, _ => none
  | .slice t x lo hi mx => match P.underlying t, cx x, cxo lo, cxo hi, cxo mx with
    | some (.slice e), some x, some lo, some hi, some mx => match P.info? e with
      | some i => sel (mx.isNone || hi.isSome) (some (.slc e i.size x lo hi mx)) none
      | none => none
    | some .string, some x, some lo, some hi, some mx => some (.slcn t x lo hi mx)
    | _, _, _, _, _ => none
  | .fieldAddr t x f => match P.underlying t, cx x with
    | some (.struct fs), some x => match fs[f]? with
      | some fd => match P.info? fd.type with
        | some i => sel (Nat.beq i.size 0) none (some (.fa x fd.offset))
        | none => none
      | none => none
    | _, _ => none
  | .field t x f => match P.underlying t, cx x with
    | some (.struct fs), some x => match fs[f]? with
      | some fd => (aggOf P fd.type).map (.fld x fd.offset)
      | none => none
    | _, _ => none
  | .indexAddr t x i => match P.underlying t, cx x, cx i with
    | some (.slice e), some x, some i => (P.info? e).map fun inf => .ia x i inf.size
    | some (.array n e), some x, some i => (P.info? e).map fun inf => .iaa x i n inf.size
    | _, _, _ => none
  | .index t x i => match P.underlying t, cx x, cx i with
    | some (.array n e), some x, some i => match P.info? e, aggOf P e with
      | some inf, some k => some (.ix x i n inf.size k)
      | _, _ => none
    | some .string, some x, some i => some (.ixs t x i)
    | _, _, _ => none
  | .extract t i => (cx t).map (.ext · i)
  | .call { callee := .value f, args, .. } => match cx f, cxs args.toList with
    | some f, some l => some (.call f l)
    | _, _ => none
  | .call { callee := .builtin b, args, argTypes } =>
    match b, args.toList with
    | .len, [x] => match (argTypes[0]?).bind P.underlying with
      | some (.slice _) => (cx x).map .len
      | some .string => (cx x).map fun x => .bi .len argTypes o.type [x]
      | _ => none
    | .cap, [x] => match (argTypes[0]?).bind P.underlying with
      | some (.slice _) => (cx x).map .cap
      | _ => none
    | .append, [x, y] => match (argTypes[0]?).bind P.underlying, (argTypes[1]?).bind P.underlying, cx x, cx y with
      | some (.slice e), some d, some x, some y => match P.info? e, zeroOf P e with
        | some i, some z => sel (Nat.beq z.size i.size && !Nat.beq i.size 0)
            (match d with
            | .int _ => some (.app e i.size i.bytes z.toList true x y)
            | .slice _ => some (.app e i.size i.bytes z.toList false x y)
            | _ => none) none
        | _, _ => none
      | _, _, _, _ => none
    | .copy, [x, y] => match (argTypes[0]?).bind P.underlying, cx x, cx y with
      | some (.slice e), some x, some y => (P.info? e).map fun i => .copy i.size x y
      | _, _, _ => none
    | .clear, [x] => match (argTypes[0]?).bind P.underlying, cx x with
      | some (.slice e), some x => match P.info? e, zeroOf P e with
        | some i, some z => sel (Nat.beq z.size i.size) (some (.clear i.size z.toList x)) none
        | _, _ => none
      | _, _ => none
    | .max, l => (cxs l).map (.bi .max argTypes o.type)
    | .min, l => (cxs l).map (.bi .min argTypes o.type)
    | _, _ => none
  | .unOp u _ x => (cx x).map (.un u)
  | .convert a b x => (cx x).map (.conv a b)
  | .makeInterface t x => (cx x).map (.mini t)
  | .typeAssert x a b ok => (cx x).map (.tas · a b ok)
  | _ => none

/-- An operation that neither writes what was there nor calls. -/
def calm : Op → Bool
  | .move _ | .assign _ | .pick .. | .alloc _ | .box .. | .build .. | .buildSlice .. | .load .. | .nilCheck _ | .binOp .. | .unOp .. | .convert .. | .makeFunc ..
  | .makeSlice .. | .slice .. | .fieldAddr .. | .field .. | .indexAddr .. | .index .. | .extract .. | .makeInterface .. | .typeAssert .. => true
  | .call { callee := .builtin b, .. } => match b with | .len | .cap | .min | .max => true | _ => false
  | _ => false
/-- An operation that looks into memory. -/
def isLook : Op → Bool
  | .load .. | .slice .. => true
  | _ => false

/-- Operation j waits for operation i. -/
def anc (b : Array Nat) (j i : Nat) : Bool := (b.getD j 0).testBit i
def pickCalm (ops : Array Oper) : List Nat → Option Nat
  | [] => none
  | i :: l => sel (match ops[i]? with | some o => calm o.op | none => false) (some i) (pickCalm ops l)

/-- An order for a region that draws one: what is calm comes as early as it may. With each operation, the loads that must go on to read the same behind it. -/
def sched (ops : Array Oper) (b : Array Nat) : Nat → Array Bool → List Nat → Option (List (Nat × List Nat))
  | 0, listed, _ => match Region.ready .any ops listed with
    | [] => some []
    | _ => none
  | fuel + 1, listed, lds => match Region.ready .any ops listed with
    | [] => some []
    | i :: rs => match pickCalm ops (i :: rs) with
      | some j => match sched ops b fuel (listed.setIfInBounds j true) (sel (match ops[j]? with | some o => isLook o.op | none => false) (j :: lds) lds) with
        | some l => some ((j, []) :: l)
        | none => none
      | none => match rs with
        | [] => match sched ops b fuel (listed.setIfInBounds i true) lds with
          | some l => some ((i, lds.filter fun k => !anc b i k) :: l)
          | none => none
        | _ => none

def orBad : Option COp → COp
  | some c => c
  | none => .bad
def compItem (P : Program) (ops : Array Oper) (i : Nat) : Option Item :=
  match ops[i]? with
  | some o => match o.guard with
    | none => some ⟨none, o.dst, orBad (compOp P o)⟩
    | some (j, w) => match (ops[j]?).bind (·.dst) with
      | some t => some ⟨some (t, w), o.dst, orBad (compOp P o)⟩
      | none => none
  | none => none
/-- What looked into memory looks once more. -/
def againOf : Item → Option Item
  | ⟨g, some d, .ld a n⟩ => some ⟨g, none, .again a n d⟩
  | ⟨g, some d, .slc e size x lo hi mx⟩ => some ⟨g, none, .againS e size x lo hi mx d⟩
  | ⟨g, d, .slcn t x lo hi mx⟩ => some ⟨g, none, .slcn t x lo hi mx⟩
  | _ => none
def againItem (P : Program) (ops : Array Oper) (i : Nat) : Option Item :=
  match compItem P ops i with
  | some x => againOf x
  | none => none
def agains (P : Program) (ops : Array Oper) : List Nat → Option (List Item)
  | [] => some []
  | i :: l => match againItem P ops i, agains P ops l with
    | some x, some l => some (x :: l)
    | _, _ => none
def itemsOf (P : Program) (ops : Array Oper) : List (Nat × List Nat) → Option (List Item)
  | [] => some []
  | (i, k) :: l => match compItem P ops i, agains P ops k, itemsOf P ops l with
    | some x, some a, some l => some (x :: (a ++ l))
    | _, _, _ => none

/-! What an operation reads. -/
def xsO : Option X → List X
  | some x => [x]
  | none => []
def opXs : COp → List X
  | .mov x | .nilc x | .un _ x | .conv _ _ x | .mini _ x | .tas x _ _ _ | .fa x _ | .fld x _ _ | .ext x _ | .len x | .cap x | .ld x _ => [x]
  | .pick c a b => [c, a, b]
  | .bin _ _ _ x y | .ixs _ x y | .ia x y _ | .iaa x y _ _ | .ix x y _ _ _ => [x, y]
  | .bi _ _ _ l => l
  | .fn _ p c => p ++ c
  | .slcn _ x lo hi mx | .slc _ _ x lo hi mx => x :: (xsO lo ++ xsO hi ++ xsO mx)
  | .build _ ps => ps.map (·.2.2)
  | _ => []
def xT : X → List Nat
  | .t i => [i]
  | .c _ => []
def oT : Operand → List Nat
  | .tmp t => [t]
  | _ => []
def gT (ops : Array Oper) (o : Oper) : List Nat :=
  match o.guard with
  | none => []
  | some (j, _) => match (ops[j]?).bind (·.dst) with
    | some t => [t]
    | none => []
/-- The temporaries that an operation looks at. -/
def readsT (P : Program) (ops : Array Oper) (o : Oper) : List Nat :=
  o.op.operands.toList.flatMap oT ++ (opXs (orBad (compOp P o))).flatMap xT ++ gT ops o
/-- One operation waits for another one, by an edge of its own. -/
def depOn (o : Oper) (i : Nat) : Bool := o.after.toList.any fun e => Nat.beq e.on i && Region.binds .any e
def memN (d : Nat) : List Nat → Bool
  | [] => false
  | x :: l => Nat.beq x d || memN d l
def writes (o : Oper) (d : Nat) : Bool := match o.dst with | some x => Nat.beq x d | none => false
/-- Each temporary has one writer; what looks at it waits for this one, or this one waits for it. -/
def tmpsOk (P : Program) (ops : Array Oper) (b : Array Nat) : Bool :=
  (List.range ops.size).all fun i => match ops[i]? with
    | some o' => (match o'.dst with
      | some d => (List.range ops.size).all fun j => match ops[j]? with
        | some o => (Nat.beq i j || !writes o d) && (!memN d (readsT P ops o) || depOn o i || (!isLook o.op && anc b i j))
        | none => true
      | none => true)
    | none => true

def compRegion (P : Program) (ops : Array Oper) (draw : Bool) : Option (List Item) :=
  match draw with
  | true => sel (tmpsOk P ops (Region.before ops) && P.follows .mixedOrders)
      (match sched ops (Region.before ops) ops.size (Array.replicate ops.size false) [] with
      | some l => itemsOf P ops l
      | none => none) none
  | false => itemsOf P ops ((List.range ops.size).map (·, []))

def itemsOr : Option (List Item) → CC
  | some l => .items l
  | none => .bad
def condOr (a b : CC) : Option X → CC
  | some x => .cond x a b
  | none => .bad
def rangeOr (ps : List Nat) (a b : CC) : Option X → CC
  | some x => .range x ps a b
  | none => .bad
def comp (P : Program) : Code → CC
  | .skip => .skip
  | .label _ => .skip
  | .ret => .ret
  | .exit id => .exit id
  | .goto l => .goto l
  | .seq a b => .seq (comp P a) (comp P b)
  | .cond c a b => condOr (comp P a) (comp P b) (cx c)
  | .block id b => .block id (comp P b)
  | .loop b => .loop (comp P b)
  | .scope b => .scope (comp P b)
  | .region _ ops draw => itemsOr (compRegion P ops draw)
  | .rangeFunc f ps assign body => rangeOr ps.toList (comp P assign) (comp P body) (cx f)
  | .refuse _ => .bad

inductive CRes where
  | tmp (t : Nat)
  | cell (a : Nat) (n : Option Nat)
structure CF where
  body : CC
  ntmps : Nat
  res : List CRes
def compRes (P : Program) : List ResultVar → Option (List CRes)
  | [] => some []
  | .tmp t :: l => (compRes P l).map (.tmp t :: ·)
  | .cell a t :: l => match aggOf P t, compRes P l with
    | some n, some l => some (.cell a n :: l)
    | _, _ => none
def compF (P : Program) (f : FuncId) : Option CF :=
  match P.funcs[f]? with
  | some fn => match fn.body with
    | some c => match compRes P fn.results.toList with
      | some r => sel (fn.name == "runtime.NumGoroutine") none (some ⟨comp P c, fn.ntmps, r⟩)
      | none => none
    | none => none
  | none => none

/-! ## Running it -/
def pureVal {α : Type} (P : Program) : Sem α → Option α
  | .pure a => some a
  | .program k => pureVal P (k P)
  | .mark _ k => pureVal P k
  | _ => none
/-- A value that hangs on no memory, made of such. -/
def flatR : Option Value → Option Value
  | some v => sel (flat v) (some v) none
  | none => none
def ev1 (P : Program) (f : Value → Sem Value) (x : Value) : Option Value := sel (flat x) (flatR (pureVal P (f x))) none
def nextV : Option Next → Option Value
  | some (.value v) => some v
  | _ => none
def evBi (P : Program) (b : Builtin) (ts : Array Nat) (t : Nat) (l : List Value) : Option Value :=
  sel (flatL l) (flatR (nextV (pureVal P (builtin b ts t #[] ⟨l⟩)))) none
def flatO : Option Value → Bool
  | none => true
  | some v => flat v
def evSlcn (P : Program) (t : Nat) (x : Value) (lo hi mx : Option Value) : Option Value :=
  sel (flat x && flatO lo && flatO hi && flatO mx) (flatR (pureVal P (Instr.slice t x lo hi mx))) none
def evIxs (P : Program) (t : Nat) (x i : Value) : Option Value := sel (flat x && flat i) (flatR (pureVal P (Instr.index t x i))) none

def kindEq : IntKind → IntKind → Bool
  | .i8, .i8 | .i16, .i16 | .i32, .i32 | .i64, .i64 | .u8, .u8 | .u16, .u16 | .u32, .u32 | .u64, .u64 => true
  | _, _ => false
def intEq : Int → Int → Bool
  | .ofNat a, .ofNat b => Nat.beq a b
  | .negSucc a, .negSucc b => Nat.beq a b
  | _, _ => false
def intLt : Int → Int → Bool
  | .ofNat a, .ofNat b => Nat.blt a b
  | .negSucc a, .negSucc b => Nat.blt b a
  | .negSucc _, .ofNat _ => true
  | .ofNat _, .negSucc _ => false
/-- The number itself, if it is an int64 as it is. -/
def fits : Int → Bool
  | .ofNat a => Nat.blt a 9223372036854775808
  | .negSucc a => Nat.blt a 9223372036854775808
def wrapq (k : IntKind) (n : Int) : Int :=
  match k with
  | .i64 => sel (fits n) n (IntKind.wrap .i64 n)
  | k => k.wrap n
def intBin (b : BinOp) (k : IntKind) (x y : Int) : Option Value :=
  match b with
  | .add => some (.int k (wrapq k (x + y)))
  | .sub => some (.int k (wrapq k (x - y)))
  | .mul => some (.int k (wrapq k (x * y)))
  | .eql => some (.bool (intEq x y))
  | .neq => some (.bool (!intEq x y))
  | .lss => some (.bool (intLt x y))
  | .leq => some (.bool (!intLt y x))
  | .gtr => some (.bool (intLt y x))
  | .geq => some (.bool (!intLt x y))
  | .quo => sel (intEq y 0) none (some (.int k (wrapq k (x.tdiv y))))
  | .rem => sel (intEq y 0) none (some (.int k (x.tmod y)))
  | _ => none

/-- Something against nil. -/
def nilCmp (d : Nat) (x y : Value) : Bool :=
  match d, x, y with
  | 1, .slice none _ _, .slice (some _) _ _ | 1, .slice (some _) _ _, .slice none _ _
  | 2, .pointer none, .pointer (some _) | 2, .pointer (some _), .pointer none
  | 3, .nilFunc, .func _ _ _ | 3, .func _ _ _, .nilFunc
  | 4, .nilIface, .iface _ _ | 4, .iface _ _, .nilIface => true
  | _, _, _ => false
def evNil (b : BinOp) : Option Value :=
  match b with
  | .eql => some (.bool false)
  | .neq => some (.bool true)
  | _ => none
/-- No test on whether two nil interface values may be compared is made for it. -/
def noGuard : Value → Bool
  | .nilIface | .agg _ => false
  | _ => true
def evBin2 (P : Program) (b : BinOp) (t : Nat) (x y : Value) : Option Value :=
  sel (flat x && flat y && noGuard x) (flatR (pureVal P (binOp b t x y))) none
def orElse (x y : Option Value) : Option Value := match x with | some v => some v | none => y
def evBin (P : Program) (b : BinOp) (t d : Nat) (x y : Value) : Option Value :=
  match x, y with
  | .int k m, .int k' n => sel (kindEq k k') (orElse (intBin b k m n) (evBin2 P b t (.int k m) (.int k' n))) none
  | x, y => sel (nilCmp d x y) (evNil b) (evBin2 P b t x y)

def natOf : Value → Option Nat
  | .int _ (.ofNat n) => some n
  | _ => none
def bnd (d : Nat) : Option Value → Option Nat
  | none => some d
  | some v => natOf v

def evNilc : Value → Option Value
  | .pointer (some a) => some (.pointer (some a))
  | .func (.func f) p c => some (.func (.func f) p c)
  | _ => none
def evCap : Value → Option Value
  | .slice _ _ c => sel (Nat.ble OPEN c) none (some (.int .i64 c))
  | _ => none
/-- A slicing, its bounds at hand. -/
def evSlcAt (b off len cap : Nat) (size l h : Nat) (m : Option Nat) : Option Value :=
  match m with
  | none => sel (Nat.ble l h) (some (.slice (some ⟨b, sel (Nat.beq cap l) off (off + l * size), none⟩) (h - l) (cap - l))) none
  | some m => sel (Nat.ble l h && Nat.ble h m && Nat.ble m cap) (some (.slice (some ⟨b, sel (Nat.beq m l) off (off + l * size), none⟩) (h - l) (m - l))) none
/-- The same of a row that came of an append, j elements of which lie ahead; k cells of it are known. -/
def evSlcOpen (b size l h k j : Nat) (m : Option Nat) : Option Value :=
  match m with
  | none => sel (Nat.ble l h && Nat.ble ((j + h) * size) k) (some (.slice (some ⟨b, (j + l) * size, none⟩) (h - l) (OPEN + (j + l)))) none
  | some m => sel (Nat.ble l h && Nat.ble h m && Nat.blt m OPEN && Nat.ble ((j + m) * size) k) (some (.slice (some ⟨b, sel (Nat.beq m l) (j * size) ((j + l) * size), none⟩) (h - l) (m - l))) none
def evMx : Option Value → Option (Option Nat)
  | none => some none
  | some v => (natOf v).map some
def evSlc (row : Nat → Option (Nat × Nat × Bool)) (e size : Nat) (x : Value) (lo hi mx : Option Value) : Option Value :=
  match x with
  | .slice (some ⟨b, off, none⟩) len cap => match bnd 0 lo, bnd len hi, evMx mx with
    | some l, some h, some m =>
      sel (Nat.ble OPEN cap)
        (match row b with
        | some (k, e', op) => sel (op && Nat.beq e e' && Nat.beq off ((cap - OPEN) * size) && !Nat.beq size 0 && (Nat.beq cap OPEN || !Nat.beq len 0)) (evSlcOpen b size l h k (cap - OPEN) m) none
        | none => none)
        (sel (Nat.ble h cap) (evSlcAt b off len cap size l h m) none)
    | _, _, _ => none
  | .slice none 0 0 => match bnd 0 lo, bnd 0 hi, evMx mx with
    | some 0, some 0, some none => some (.slice none 0 0)
    | some 0, some 0, some (some 0) => some (.slice none 0 0)
    | _, _, _ => none
  | _ => none
/-! Equality of values. -/
mutual
def eqV : Value → Value → Bool
  | .bool a, .bool b => match a, b with | true, true | false, false => true | _, _ => false
  | .int k a, .int k' b => kindEq k k' && intEq a b
  | .string a, .string b => decide (a = b)
  | .pointer none, .pointer none => true
  | .pointer (some ⟨a, o, none⟩), .pointer (some ⟨b, o', none⟩) => Nat.beq a b && Nat.beq o o'
  | .slice none l c, .slice none l' c' => Nat.beq l l' && Nat.beq c c'
  | .slice (some ⟨a, o, none⟩) l c, .slice (some ⟨b, o', none⟩) l' c' => Nat.beq a b && Nat.beq o o' && Nat.beq l l' && Nat.beq c c'
  | .func (.func f) p c, .func (.func f') p' c' => Nat.beq f f' && eqA p p' && eqA c c'
  | .func (.yield f) p c, .func (.yield f') p' c' => Nat.beq f f' && eqA p p' && eqA c c'
  | .nilFunc, .nilFunc => true
  | .nilIface, .nilIface => true
  | .iface t v, .iface t' v' => Nat.beq t t' && eqV v v'
  | .agg a, .agg b => eqA a b
  | .tuple a, .tuple b => eqA a b
  | _, _ => false
def eqA : Array Value → Array Value → Bool
  | ⟨a⟩, ⟨b⟩ => eqL a b
def eqL : List Value → List Value → Bool
  | [], [] => true
  | a :: x, b :: y => eqV a b && eqL x y
  | _, _ => false
end

def undefs : Nat → List Value
  | 0 => []
  | n + 1 => undef :: undefs n
def full (n : Nat) : BT Value := BT.ofList (undefs n)
/-- A table of turned functions. -/
def tabOf (t : BT (Option CF)) (f : Nat) : Option CF := match t.get f with | some c => c | none => none
end Go.Proofs.YtpedbdicjgdgkaaGreat.Ev
