import Derived.Test.YtlpoenoijmifdaaClo
set_option linter.unusedVariables false
set_option linter.unusedSimpArgs false
namespace Go.Proofs.Ytlpoenoijmifdaa
open Go.RowKit

/-- v is a slice of groups of the call's own. -/
def OwnG (B : Nat) (w : World) (v : Value) (gs : List (Nat × Nat)) : Prop := w.ownsRow B 60 2 v gs.length (flatG gs)
theorem OwnG.gb {B : Nat} {w w' : World} {v : Value} {gs : List (Nat × Nat)} {row : Option Nat} (h : OwnG B w v gs) (hg : w.grownBy w' row) (hne : ∀ k, v.ownBlock = some k → some k ≠ row) : OwnG B w' v gs := by
  refine World.ownsRow.kept h hg ?_
  cases e : v.ownBlock with
  | none => exact .inl rfl
  | some k => exact .inr (hne k e)
theorem below_gb' {w w' : World} (hb : Below w.heap.size w w') : w.grownBy w' none := ⟨hb.os, hb.tape, hb.output, hb.size, fun k hk _ => hb.block k hk⟩
theorem IsGB.gb {B : Nat} {w w' : World} {v : Value} {gs : List (Nat × Nat)} {row : Option Nat} (h : IsGB B w v gs) (hB : B ≤ w.heap.size) (hne : ∀ k, v.ownBlock = some k → some k ≠ row) (hg : w.grownBy w' row) : IsGB B w' v gs := by
  obtain ⟨a, cap, hv, h1, h2, h4⟩ := h
  refine ⟨a, cap, hv, h1, h2, fun he => ?_⟩
  obtain ⟨b, off, ha, hlt, hc⟩ := h4 he
  have hb := hg.block b (by omega) (hne b (by rw [hv, ha]; rfl))
  exact ⟨b, off, ha, hlt, fun i hi => ⟨by rw [World.cell?_of_block (a := ⟨b, off + i * 2, none⟩) hb]; exact (hc i hi).1, by rw [World.cell?_of_block (a := ⟨b, off + i * 2 + 1, none⟩) hb]; exact (hc i hi).2⟩⟩
theorem OwnG.isGB {B : Nat} {w : World} {v : Value} {gs : List (Nat × Nat)} (h : OwnG B w v gs) : IsGB w.heap.size w v gs := IsGB.of_own h

theorem pushG_w {ops : Array Oper} {rest : List Oper} {o : Oper} {a : Act} {Q : Exit → Act → World → Prop} (hgd : o.guard = none) (s x : Operand)
    (ho : o.op = .call { callee := .builtin .append, args := #[s, x], argTypes := #[39, 39] })
    (B : Nat) (W : World) (v : Value) (gs : List (Nat × Nat)) (p q : Int) (x1 x2 : Nat) (hp : p = (x1 : Nat)) (hq : q = (x2 : Nat)) (hown : OwnG B W v gs) (hs : a.eval s = v) (hx : a.eval x = .slice (some ⟨W.heap.size, 0, none⟩) 1 1) (hl : gs.length ≤ 1000000) (hB : B ≤ W.heap.size)
    (h : ∀ v' w', OwnG B w' v' (gs ++ [(x1, x2)]) → (W.alloc (.cells #[.int .i64 p, .int .i64 q] 60)).grownBy w' v.ownBlock → (v'.ownBlock = v.ownBlock ∨ v'.ownBlock = some (W.heap.size + 1)) → wpList Try.prog ops Q rest (a.put o.dst v') w') :
    wpList Try.prog ops Q (o :: rest) a (W.alloc (.cells #[.int .i64 p, .int .i64 q] 60)) := by
  subst hp; subst hq
  obtain ⟨i0, hi, hz0, hz1, hz2⟩ := info_parts infoG
  refine wpList_append_own_at _ hgd s x 39 ho B 60 i0 _ 2 16 Try.underlying39 hi hz0 hz1 hz2 rfl (by decide) v gs.length (flatG gs) hs (World.ownsRow.alloc hown _) ⟨W.heap.size, 0, none⟩ 1 1 [.int .i64 (x1 : Nat), .int .i64 (x2 : Nat)] hx rfl (cell_two_new _ _ _ _) (by simp [Value.oneCell']) (by simp only [maxLen]; omega) (by omega) (by simp; omega) ?_
  intro v' w' h1 h2 h3 h4
  refine h v' w' ?_ h2 (by simpa using h4)
  unfold OwnG
  rw [List.length_append, flatG_snoc]
  exact h1

/-- The groups of two lists are together those of the whole. -/
def dvB (fs ss ws : List Int) : Bool := eqG (grs fs ++ (grs ss).map (shG (fs.length - 1))) (grs ws)

set_option maxRecDepth 100000 in
set_option maxHeartbeats 2000000 in
theorem divides_w (a1 a2 a3 : Option Addr) (n1 n2 n3 c1 c2 c3 : Nat) (fs ss ws : List Int) (w : World) (i1 : IsL w (.slice a1 n1 c1) fs) (i2 : IsL w (.slice a2 n2 c2) ss) (i3 : IsL w (.slice a3 n3 c3) ws) (hf : Pos fs) (hs : Pos ss) (hw : Pos ws) :
    Calls Try.prog 78 #[.slice a1 n1 c1, .slice a2 n2 c2, .slice a3 n3 c3] w fun e w' => e = .returned (.bool (dvB fs ss ws)) ∧ Below w.heap.size w w' := by
  have hn1 : n1 = fs.length := by obtain ⟨_, _, hv, _⟩ := i1; exact (Value.slice.inj hv).2.1
  subst hn1
  have C1 := groupsOf_own a1 _ c1 fs w i1 hf
  have C2 := fun X (hX : Below w.heap.size w X) => groupsOf_w a2 n2 c2 ss X (i2.below hX) hs
  have C3 := fun X (hX : Below w.heap.size w X) => groupsOf_w a3 n3 c3 ws X (i3.below hX) hw
  have h9 := hf.hi
  have h2 := hf.lo
  have g1 := grF_len fs fs.length 0
  have g2 := grF_len ss ss.length 0
  have gb := grF_bd ss ss.length 0
  have s9 := hs.hi
  have gl1 : (grs fs).length ≤ 9 := by unfold grs grsFrom; omega
  have gl2 : (grs ss).length ≤ 9 := by unfold grs grsFrom; omega
  have HC1 := hide C1; have HC2 := hide C2; have HC3 := hide C3
  have HGB := hide gb
  clear C1 C2 C3 i1 i2 i3 hf hs hw g1 g2 gb
  go_enter Try.func78, Try.ntmps78
  go_wp2_with fail
  refine HC1.out.mono ?_
  rintro e w1 ⟨v1, rfl, ho1, hb1⟩
  have HO1 := hide ho1; have HB1 := hide hb1
  have hz1 := hb1.size
  have hv1 := World.ownsRow.lt ho1
  clear ho1 hb1
  go_wp2_with fail
  refine (HC2.out _ HB1.out).mono ?_
  rintro e w2 ⟨v2, rfl, hg2, hf2, hb2⟩
  have hz2 := hb2.size
  have HO2 : Hid (OwnG w.heap.size w2 v1 (grs fs)) := OwnG.gb (w := w1) HO1.out (below_gb' hb2) (by intro k _; simp)
  have HB2 := hide (back HB1.out hb2); have HG2 := hide hg2; have HF2 := hide hf2
  have hv1' : ∀ k, v1.ownBlock = some k → k < w1.heap.size := fun k hk => (hv1 k hk).2
  have HV1 := hide hv1'
  have hlt2 : ∀ k, v2.ownBlock = some k → (grs ss) ≠ [] → k < w2.heap.size := by
    intro k hk hne
    obtain ⟨_, _, hv, _, _, h4⟩ := hg2
    obtain ⟨b, off, e, hlt, _⟩ := h4 hne
    rw [hv, e] at hk; cases hk; exact hlt
  have HLT2 := hide hlt2
  obtain ⟨a4, c4, rfl, _⟩ := id hg2
  clear hg2 hf2 hb2 hv1 hv1' HO1 HB1 hlt2
  go_wp2_with fail
  go_loopw [7, 15] (fun v i wr => ∃ (V : Value) (k : Nat), V = v ∧ i = .int .i64 k ∧ k ≤ (grs ss).length ∧ Hid (OwnG w.heap.size wr V (grs fs ++ ((grs ss).take k).map (shG (fs.length - 1)))) ∧ Hid (∀ j, V.ownBlock = some j → j < w1.heap.size ∨ w2.heap.size ≤ j) ∧ Hid (IsGB w2.heap.size wr (.slice a4 (grs ss).length c4) (grs ss)) ∧ Hid (Below w.heap.size w wr) ∧ w2.heap.size ≤ wr.heap.size) (fun _ i _ => (grs ss).length - (intOf i).toNat)
  case atStart => exact ⟨_, 0, rfl, rfl, Nat.zero_le _, hide (by simpa using HO2.out), hide (fun j hj => .inl (HV1.out j hj)), HG2, HB2, Nat.le_refl _⟩
  case round =>
    obtain ⟨V, k, rfl, rfl, hk, hown, hblk, hgv, hbel, hzr⟩ := hrel
    by_cases hlt : k < (grs ss).length
    · obtain ⟨_, _, hv, q1, q2, q4⟩ := id hgv.out
      obtain ⟨rfl, _, rfl⟩ := Value.slice.inj hv
      obtain ⟨b, o, rfl, hbl, hc⟩ := q4 (by intro h; rw [h] at hlt; simp at hlt)
      have hmem := HGB.out (grs ss)[k] (List.getElem_mem hlt)
      have hgk : (grs ss)[k]?.getD (0, 0) = (grs ss)[k] := by simp [hlt]
      obtain ⟨p1, p2⟩ := hc k hlt
      rw [hgk] at p1 p2
      have htk : ((grs ss).take (k + 1)).map (shG (fs.length - 1)) = ((grs ss).take k).map (shG (fs.length - 1)) ++ [shG (fs.length - 1) (grs ss)[k]] := by
        rw [List.take_succ_eq_append_getElem hlt, List.map_append]; rfl
      obtain ⟨⟨x1, x2⟩, hx⟩ : ∃ g, (grs ss)[k] = g := ⟨_, rfl⟩
      rw [hx] at p1 p2 hmem htk
      simp only [shG] at p1 p2 hmem htk
      have hmb : x1 ≤ 9 ∧ x2 ≤ 9 := by omega
      obtain ⟨mb1, mb2⟩ := hmb
      have p3 : wr.cell? ⟨b, o + (k * 2 + 1), none⟩ = some (.int .i64 (x2 : Nat)) := p2
      have HTK := hide htk
      have hbr : b < wr.heap.size := by omega
      have hl3 : (k : Int) < (grs ss).length := by omega
      have hlen : (grs fs ++ ((grs ss).take k).map (shG (fs.length - 1))).length ≤ 1000000 := by simp; omega
      have hsum : (x1 : Int) + (fs.length : Int) - 1 = ((x1 + (fs.length - 1) : Nat) : Int) := by omega
      have HSUM := hide hsum
      have hown' : OwnG w.heap.size (wr.alloc (.cells #[.int .i64 (x1 : Nat), .int .i64 (x2 : Nat)] 60)) V (grs fs ++ ((grs ss).take k).map (shG (fs.length - 1))) := World.ownsRow.alloc hown.out _
      have HOWN := hide hown'
      have hsz : w.heap.size ≤ (wr.alloc (.cells #[.int .i64 (x1 : Nat), .int .i64 (x2 : Nat)] 60)).heap.size := by simp; have := hbel.out.size; omega
      have HSZ := hide hsz
      clear hc q4 hgk hx hmem htk hsum hown' hsz hv
      go_wp2_with (at_builtin; refine pushG_w rfl (.tmp 19) (.tmp 29) rfl w.heap.size (wr.alloc (.cells #[.int .i64 (x1 : Nat), .int .i64 (x2 : Nat)] 60)) V _ _ _ (x1 + (fs.length - 1)) x2 HSUM.out rfl HOWN.out rfl (by rw [World.size_alloc]; rfl) hlen HSZ.out ?_; intro v' w5 hown5 hg5 hbk5)
      have hb5 : Below w.heap.size w w5 := by
        refine hbel.out.trans ?_
        have h1 := ((Below.refl w.heap.size wr).alloc hbel.out.size (.cells #[.int .i64 (x1 : Nat), .int .i64 (x2 : Nat)] 60))
        exact (h1.alloc (by simp; have := hbel.out.size; omega) _).grown hg5 (by simp; have := hbel.out.size; omega) (fun j hj => (World.ownsRow.lt hown.out j hj).1)
      have hz5 : wr.heap.size + 1 + 1 ≤ w5.heap.size := by have := hg5.size; simpa using this
      have hgv5 : IsGB w2.heap.size w5 (.slice (some ⟨b, o, none⟩) (grs ss).length c4) (grs ss) := by
        have h1 : IsGB w2.heap.size ((wr.alloc (.cells #[.int .i64 (x1 : Nat), .int .i64 (x2 : Nat)] 60)).alloc (.cells #[.int .i64 ((x1 : Int) + (fs.length : Int) - 1), .int .i64 (x2 : Nat)] 60)) (.slice (some ⟨b, o, none⟩) (grs ss).length c4) (grs ss) :=
          IsGB.keep (w := wr) hgv.out fun p hp => by
            rw [(((Below.refl w2.heap.size wr).alloc hzr _).alloc (by simp; omega) _).cell hp]
        refine h1.gb (by simp; omega) (fun j hj => ?_) hg5
        intro e
        have hjb : j = b := by simp [Value.ownBlock] at hj; exact hj.symm
        rcases hblk.out j e.symm with h | h
        · have := HF2.out j hj; omega
        · omega
      have hblk5 : ∀ j, v'.ownBlock = some j → j < w1.heap.size ∨ w2.heap.size ≤ j := by
        intro j hj
        rcases hbk5 with e | e
        · rw [e] at hj; exact hblk.out j hj
        · rw [e] at hj; cases hj; right; simp; omega
      have HB5 := hide hb5; have HGV5 := hide hgv5; have HBLK5 := hide hblk5; have HO5 := hide hown5
      clear hb5 hgv5 hblk5 hown5 hg5 hbk5
      go_roundw
      case rel => exact ⟨_, k + 1, rfl, by go_num, by omega, hide (by rw [HTK.out, ← List.append_assoc]; exact HO5.out), HBLK5, HGV5, HB5, by omega⟩
      case measure => simp [intOf]; omega
    · have hl3 : ¬ ((k : Int) < (grs ss).length) := by omega
      have hoo := hown.out
      rw [List.take_of_length_le (by omega)] at hoo
      have HIS := hide hoo.isGB
      clear hoo
      go_wp2_with fail
      refine (HC3.out _ hbel.out).mono ?_
      rintro e w6 ⟨v3, rfl, hg3, hf3, hb3⟩
      have HIS6 := hide (HIS.out.keep (w' := w6) fun p hp => hb3.cell hp)
      have HG3 := hide hg3; have HB6 := hide (back hbel.out hb3)
      clear hg3 hf3 hb3
      go_wp2_with (go_at_call 90; refine (equalG_w _ _ _ _ _ _ _ HIS6.out HG3.out).mono ?_; rintro e w7 ⟨rfl, n, rfl⟩)
      go_ret
      exact ⟨rfl, below_drewN HB6.out _⟩
end Go.Proofs.Ytlpoenoijmifdaa
