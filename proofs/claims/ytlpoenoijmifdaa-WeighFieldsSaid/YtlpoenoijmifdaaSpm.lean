import Derived.Test.YtlpoenoijmifdaaSpt
set_option linter.unusedVariables false
set_option linter.unusedSimpArgs false
namespace Go.Proofs.Ytlpoenoijmifdaa
open Go.RowKit

theorem IsGB.only {S : Nat → Prop} {B0 B : Nat} {w w' : World} {v : Value} {gs : List (Nat × Nat)} (h : IsGB B w v gs) (hB : B ≤ w.heap.size) (hf : Fresh B0 v) (hS : ∀ k, S k → k < B0) (ho : Only S w w') : IsGB B w' v gs := by
  obtain ⟨a, cap, hv, h1, h2, h4⟩ := h
  refine ⟨a, cap, hv, h1, h2, fun hne => ?_⟩
  obtain ⟨b, off, ha, hlt, hc⟩ := h4 hne
  have hb : ¬ S b := fun hs => by
    have h1 := hS b hs
    have h2 := hf b (by rw [hv, ha]; rfl)
    omega
  exact ⟨b, off, ha, hlt, fun i hi => ⟨by rw [ho.cell (p := ⟨b, off + i * 2, none⟩) (by show b < _; omega) hb]; exact (hc i hi).1, by rw [ho.cell (p := ⟨b, off + i * 2 + 1, none⟩) (by show b < _; omega) hb]; exact (hc i hi).2⟩⟩

theorem IsLB.only {S : Nat → Prop} {B : Nat} {w w' : World} {v : Value} {xs : List Int} (h : IsLB B w v xs) (hB : B ≤ w.heap.size) (hS : ∀ k, S k → B ≤ k) (ho : Only S w w') : IsLB B w' v xs := h.below (ho.below hB hS)

theorem take_flat (xs : List Int) (gs : List (Nat × Nat)) (k : Nat) (h : k < gs.length) : (gs.take (k + 1)).flatMap (con xs) = (gs.take k).flatMap (con xs) ++ con xs gs[k] := by
  rw [List.take_succ_eq_append_getElem h, List.flatMap_append]; simp

theorem cut_flat (xs : List Int) (gs : List (Nat × Nat)) (k : Nat) (h : k < gs.length) : ∃ rest, gs.flatMap (con xs) = (gs.take k).flatMap (con xs) ++ con xs gs[k] ++ rest := by
  refine ⟨(gs.drop (k + 1)).flatMap (con xs), ?_⟩
  rw [← take_flat xs gs k h, ← List.flatMap_append, List.take_append_drop]

theorem many_two {xs : List Int} {i : Nat} (h : many xs i = 2) : i + 2 < xs.length ∧ rat (at_ xs (i + 1) - at_ xs i) (at_ xs (i + 2) - at_ xs (i + 1)) ≠ 0 := by
  unfold many at h; split at h
  · assumption
  · simp at h

set_option maxHeartbeats 2000000 in
theorem spread_w (S : Nat → Prop) (fn : Nat) (p : Addr) (I : List (Nat × Int) → World → Prop) (B : Nat) (a : Option Addr) (n cap : Nat) (xs : List Int) (hA : Adder S fn p (cons xs) I)
    (w : World) (h : IsLB B w (.slice a n cap) xs) (hB : B ≤ w.heap.size) (hp : Pos xs) (hS : ∀ k, S k → B ≤ k ∧ k < w.heap.size) (hI : I [] w) :
    Calls Try.prog 87 #[.slice a n cap, .func (.func fn) #[.pointer (some p)] #[]] w fun e w' => e = .returned (.tuple #[]) ∧ I (cons xs) w' ∧ Only S w w' := by
  have hg := groupsOf_w a n cap xs w (h.isL hB) hp
  have HG := hide hg; clear hg
  have HI := hide hI; clear hI
  have HS := hide hS; clear hS
  have HH := hide h; clear h
  go_enter Try.func87, Try.ntmps87
  go_wp2_with (go_at_call 67; refine HG.out.mono ?_; rintro e w1 ⟨v, rfl, hv, hf, hb⟩; obtain ⟨a1, c1, rfl, l1, m1, k1⟩ := id hv)
  unfold maxLen at m1
  have hS0 : ∀ k, S k → B ≤ k := fun k hk => (HS.out k hk).1
  have hSw : ∀ k, S k → k < w.heap.size := fun k hk => (HS.out k hk).2
  have HS0 := hide hS0; have HSW := hide hSw; clear hS0 hSw
  have hz1 := hb.size
  have hbd := grF_bd xs xs.length 0
  have HBD := hide hbd; clear hbd
  go_loopw [9] (fun i wr => ∃ k : Nat, i = .int .i64 k ∧ k ≤ (grs xs).length ∧ w1.heap.size ≤ wr.heap.size ∧ Hid (I (((grs xs).take k).flatMap (con xs)) wr) ∧ Hid (Only S w wr) ∧ Hid (IsGB w1.heap.size wr (.slice a1 (grs xs).length c1) (grs xs)) ∧ Hid (IsLB B wr (.slice a n cap) xs)) (fun i _ => (grs xs).length - (intOf i).toNat)
  case atStart => exact ⟨0, rfl, Nat.zero_le _, Nat.le_refl _, hide (by simpa using hA.keep _ _ _ HI.out hb), hide (Only.of_below hb), hide hv, hide (HH.out.below (hb.mono hB))⟩
  case round =>
    obtain ⟨k, rfl, hk, hwz, hi, ho, hgv, hxs⟩ := hrel
    by_cases hlt : k < (grs xs).length
    · have hgv' := hgv.out
      obtain ⟨a2, c2, e2, l2, m2, k2⟩ := hgv'
      cases e2
      obtain ⟨b, o, rfl, hbl, hc⟩ := k2 (by intro h; rw [h] at hlt; simp at hlt)
      have hck := hc k hlt
      have hgk : (grs xs)[k]?.getD (0, 0) = (grs xs)[k] := by simp [hlt]
      have hmem := HBD.out (grs xs)[k] (List.getElem_mem hlt)
      obtain ⟨rest, hcut⟩ := cut_flat xs (grs xs) k hlt
      have htk := take_flat xs (grs xs) k hlt
      obtain ⟨g, hge⟩ : ∃ g, (grs xs)[k] = g := ⟨_, rfl⟩
      rw [hgk, hge] at hck
      rw [hge] at hmem hcut htk
      obtain ⟨gi, gm⟩ := g
      simp only at hck hmem
      obtain ⟨ck1, ck2⟩ := hck
      obtain ⟨_, mb, mo, mm⟩ := hmem
      have HM := hide mm; clear mm
      have ck3 : wr.cell? ⟨b, o + (k * 2 + 1), none⟩ = some (.int .i64 (gm : Nat)) := ck2
      have HCUT := hide hcut; have HTK := hide htk
      clear hcut htk hge hgk hc k2
      have hl3 : (k : Int) < (grs xs).length := by omega
      have hsz : ∀ o : Obj, Below wr.heap.size wr (wr.alloc o) := fun o => (Below.refl _ _).alloc (Nat.le_refl _) _
      have HSZ := hide hsz; clear hsz
      have hBw : B ≤ wr.heap.size := by have := hb.size; omega
      rcases mo with rfl | rfl
      · simp only [Int.cast_ofNat_Int, Int.natCast_one] at ck2 ck3
        go_wp2_with fail
        refine (spreadOne_w S fn p (cons xs) I hA a n cap xs _ ((hxs.out.below ((HSZ.out _).mono hBw)).more (by simp; omega)) hp gi (by omega) _ (hA.keep _ _ _ hi.out (HSZ.out _)) ⟨rest, HCUT.out⟩).mono ?_
        rintro e w2 ⟨rfl, hI2, ho2⟩
        have ho3 : Only S wr w2 := (Only.of_below (HSZ.out _)).trans ho2
        have HI2 := hide hI2; have HO3 := hide ho3; clear hI2 ho2 ho3
        have hz2 : wr.heap.size ≤ w2.heap.size := HO3.out.size
        go_wp2
        go_roundw
        case rel => exact ⟨k + 1, by go_num, by omega, by omega, hide (by rw [HTK.out]; exact HI2.out), hide (ho.out.trans HO3.out), hide (hgv.out.only hwz hf HSW.out HO3.out), hide (hxs.out.only hBw HS0.out HO3.out)⟩
        case measure => simp [intOf]; omega
      · simp only [Int.cast_ofNat_Int] at ck2 ck3
        go_wp2_with fail
        refine (spreadTwo_w S fn p (cons xs) I hA a n cap xs _ ((hxs.out.below ((HSZ.out _).mono hBw)).more (by simp; omega)) hp gi mb (many_two HM.out.symm).2 _ (hA.keep _ _ _ hi.out (HSZ.out _)) ⟨rest, HCUT.out⟩).mono ?_
        rintro e w2 ⟨rfl, hI2, ho2⟩
        have ho3 : Only S wr w2 := (Only.of_below (HSZ.out _)).trans ho2
        have HI2 := hide hI2; have HO3 := hide ho3; clear hI2 ho2 ho3
        have hz2 : wr.heap.size ≤ w2.heap.size := HO3.out.size
        go_wp2
        go_roundw
        case rel => exact ⟨k + 1, by go_num, by omega, by omega, hide (by rw [HTK.out]; exact HI2.out), hide (ho.out.trans HO3.out), hide (hgv.out.only hwz hf HSW.out HO3.out), hide (hxs.out.only hBw HS0.out HO3.out)⟩
        case measure => simp [intOf]; omega
    · have hl3 : ¬ ((k : Int) < (grs xs).length) := by omega
      have hn := hi.out
      rw [List.take_of_length_le (by omega)] at hn
      have HN := hide hn; clear hn
      go_wp2
      go_end0
      exact ⟨rfl, HN.out, ho.out⟩
end Go.Proofs.Ytlpoenoijmifdaa
