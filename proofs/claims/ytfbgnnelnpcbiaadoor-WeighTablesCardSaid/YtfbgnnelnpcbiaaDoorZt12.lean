import Derived.Test.YtfbgnnelnpcbiaaDoorZt08
import Derived.Test.YtfbgnnelnpcbiaaDoorZt11
import Derived.RangeFuncNested
import Derived.Shelf.LaysM
import Derived.Shelf.Strconv.Itoa3
import Derived.Deep.RegionHeld3
set_option linter.unusedVariables false
set_option linter.unusedSimpArgs false
namespace Go.Proofs.YtfbgnnelnpcbiaaDoor
open Go.RowKit Go.Shelf

/-- A builder in block b holds the bytes l; its buffer lies in blocks from B on. -/
def Bld (B b : Nat) (l : List UInt8) (w : World) : Prop := Lib.IsBuilder 51 5 B b (Lib.byteCells l) w

/-- What lay, but for block b and rows of bytes, lies as it lay. -/
def Nb (b : Nat) (w w' : World) : Prop := w.heap.size ≤ w'.heap.size ∧ ∀ k o, w.heap[k]? = some o → k ≠ b → (∀ cs fr, o ≠ .cells cs 5 fr) → w'.heap[k]? = some o
theorem Nb.refl (b : Nat) (w : World) : Nb b w w := ⟨Nat.le_refl _, fun _ _ h _ _ => h⟩
theorem Nb.trans {b : Nat} {x y z : World} (h : Nb b x y) (k : Nb b y z) : Nb b x z := ⟨Nat.le_trans h.1 k.1, fun i o hi hb ho => k.2 i o (h.2 i o hi hb ho) hb ho⟩
theorem Nb.setCell (b off : Nat) (v : Value) (w : World) : Nb b w (w.setCell ⟨b, off, none⟩ v) := ⟨by simp [World.setCell], fun k o hk hb _ => (Below.heap_setCell _ _ _ _ hb).trans hk⟩
theorem Nb.below {b : Nat} {w w' : World} (h : Below w.heap.size w w') : Nb b w w' := ⟨h.size, fun k o hk _ _ => (h.block k (Array.getElem?_eq_some_iff.1 hk).1).trans hk⟩
theorem Nb.grown {B b : Nat} {w w' : World} {v : Value} {n : Nat} {xs : List Value} (ho : w.ownsRow B 5 1 v n xs) (hg : w.grownBy w' v.ownBlock) : Nb b w w' := by
  refine ⟨hg.size, fun k o hk _ hne => (hg.block k (Array.getElem?_eq_some_iff.1 hk).1 ?_).trans hk⟩
  intro e
  rcases ho.2 with ⟨rfl, _⟩ | ⟨g, cap, cur, rfl, _, hg', _⟩
  · simp [Value.ownBlock] at e
  · simp only [Value.ownBlock, Option.some.injEq] at e
    subst e
    rw [hg'] at hk
    cases hk
    exact hne _ _ rfl
theorem Nb.keeps {B b : Nat} {l : List UInt8} {w w' : World} (h : Nb b w w') (hb : Bld B b l w) (n : Nat) : KeepsFrom n w w' := by
  have key : ∀ (k : Nat) (o : Obj), w.heap[k]? = some o → o.isCells = false → w'.heap[k]? = some o := by
    intro k o hk ho
    refine h.2 k o hk ?_ ?_
    · rintro rfl
      rcases hb with ⟨_, v, hv, _⟩ | ⟨_, v, hv, _⟩ <;> (rw [hv] at hk; cases hk; cases ho)
    · rintro cs fr rfl
      cases ho
  exact ⟨h.1, fun k o _ hk ho => key k o hk ho⟩

theorem cc_w (B b : Nat) (bs : List Value) (w : World) (h : Lib.IsBuilder 51 5 B b bs w) :
    Calls Tryd.prog 56 #[.pointer (some ⟨b, 0, none⟩)] w fun e w' => e = .returned (.tuple #[]) ∧ Lib.BuilderAt 51 5 B b (.pointer (some ⟨b, 0, none⟩)) bs w' ∧ Below B w w' ∧ Nb b w w' := by
  rcases h with h | h
  · refine (Any.Builder_copyCheck_fresh (ρ := bren) { blays166 with } bextra.toX72 b w h.cell0 h.shape h.frozen0).mono ?_
    rintro e w' ⟨rfl, rfl⟩
    exact ⟨rfl, h.used _, (Below.refl B w).setCell (p := ⟨b, 0, none⟩) h.1 _, Nb.setCell _ _ _ _⟩
  · refine (Any.Builder_copyCheck_used (ρ := bren) { blays166 with } bextra.toX72 b w h.cell0).mono ?_
    rintro e w' ⟨rfl, rfl⟩
    exact ⟨rfl, h, Below.refl B _, Nb.refl _ _⟩

set_option maxHeartbeats 2000000 in
set_option maxRecDepth 100000 in
theorem ws_w (B b : Nat) (l s : List UInt8) (w : World) (h : Bld B b l w) (hl : l.length + s.length ≤ 1000000000000) (hB : B ≤ w.heap.size) :
    Calls Tryd.prog 42 #[.pointer (some ⟨b, 0, none⟩), .string ⟨s.toArray⟩] w fun e w' => e = .returned (.tuple #[.int .i64 s.length, .nilIface]) ∧ Bld B b (l ++ s) w' ∧ Below B w w' ∧ Nb b w w' := by
  obtain ⟨i0, hi, hz0, hz1, hz2⟩ := info_parts bextra.infoByte
  have hsz : (⟨s.toArray⟩ : ByteArray).size = s.length := by show s.toArray.size = _; simp
  obtain ⟨st, hst⟩ : ∃ st, (⟨s.toArray⟩ : ByteArray) = st := ⟨_, rfl⟩
  rw [hst] at hsz ⊢
  have HST := hide hst
  clear hst
  have hbl : (Lib.byteCells l).length = l.length := Lib.byteCells_length _
  obtain ⟨bs, hbs⟩ : ∃ bs, Lib.byteCells l = bs := ⟨_, rfl⟩
  unfold Bld at h
  rw [hbs] at h hbl
  have HBS := hide hbs
  have HH := hide h
  have HBL := hide hbl; have HSZ := hide hsz
  clear h hbs hbl hsz
  go_enter Tryd.func42, Tryd.ntmps42
  go_wp2_with (go_at_call 56; refine (cc_w B b bs _ HH.out).mono ?_)
  rintro e w1 ⟨rfl, h1, hb1, hn1⟩
  obtain ⟨hB', v, hbk, hown, hne⟩ := h1
  have c0 : w1.cell? ⟨b, 0, none⟩ = some (.pointer (some ⟨b, 0, none⟩)) := by rw [Lib.cell_of_heap hbk]; rfl
  have c1 : w1.cell? ⟨b, 1, none⟩ = some v := by rw [Lib.cell_of_heap hbk]; rfl
  have hz := hb1.size
  have HB1 := hide hb1; have HN1 := hide hn1
  clear hb1 hn1
  go_wp2_with (at_builtin; refine Lib.wpList_append_own_string _ rfl _ _ 49 9 rfl B 5 i0 Tryd.underlying49 Tryd.underlying9 hi hz0 hz1 hz2 _ _ _ rfl hown st rfl ?c3 ?c4 ?c5 ?_)
  case c3 => have := HBL.out; have := HSZ.out; unfold maxLen; omega
  case c4 => have := HBL.out; have := HSZ.out; omega
  case c5 => omega
  intro v' w2 hown' hgrow _
  have hlt : b < w1.heap.size := by
    rcases Nat.lt_or_ge b w1.heap.size with h' | h'
    · exact h'
    · simp [Array.getElem?_eq_none h'] at hbk
  have hb2 : w2.heap[b]? = some (.cells #[.pointer (some ⟨b, 0, none⟩), v] 51 (0, 0)) := by
    rw [hgrow.block b hlt (fun e => hne e.symm)]
    exact hbk
  have d0 : w2.cell? ⟨b, 0, none⟩ = some (.pointer (some ⟨b, 0, none⟩)) := by rw [Lib.cell_of_heap hb2]; rfl
  have d1 : w2.cell? ⟨b, 1, none⟩ = some v := by rw [Lib.cell_of_heap hb2]; rfl
  have f1 : w2.frozen? ⟨b, 1, none⟩ = false := Lib.frozen_of_heap hb2 1
  obtain ⟨ao, n', cap, rfl⟩ : ∃ ao n' cap, v' = .slice ao n' cap := by
    rcases hown'.2 with ⟨hv, _⟩ | ⟨g, cap, cur, hv, _⟩
    · exact ⟨_, _, _, hv⟩
    · exact ⟨_, _, _, hv⟩
  have HG := hide hgrow; have HO := hide hown'; have HN := hide (Nb.grown (b := b) hown hgrow)
  have HW := hide hown
  clear hgrow hown' hown
  go_wp2
  go_ret2
  refine ⟨?_, .inr ?_, ?_, ?_⟩
  · rw [← HSZ.out]; rfl
  · have e1 : Lib.byteCells (l ++ s) = bs ++ Lib.strCells st := by rw [Lib.byteCells_append, HBS.out, ← HST.out]; rfl
    rw [e1]
    exact Lib.BuilderAt.put (T := 51) (e := 5) hB' hb2 (bs' := bs ++ Lib.strCells st) (by have := HO.out; simpa [Lib.strCells_length] using this) bextra.neB5
  · exact (HB1.out.grown HG.out (by omega) (fun k hk => (HW.out.lt k hk).1)).setCell (p := ⟨b, 1, none⟩) hB' _
  · exact (HN1.out.trans HN.out).trans (Nb.setCell _ _ _ _)

set_option maxHeartbeats 2000000 in
set_option maxRecDepth 100000 in
theorem wb_w (B b : Nat) (l : List UInt8) (c : UInt8) (w : World) (h : Bld B b l w) (hl : l.length + 1 ≤ 1000000000000) (hB : B ≤ w.heap.size) :
    Calls Tryd.prog 43 #[.pointer (some ⟨b, 0, none⟩), .int .u8 (c.toNat : Int)] w fun e w' => e = .returned .nilIface ∧ Bld B b (l ++ [c]) w' ∧ Below B w w' ∧ Nb b w w' := by
  obtain ⟨i0, hi, hz0, hz1, hz2⟩ := info_parts bextra.infoByte
  obtain ⟨ci, hci⟩ : ∃ ci, (c.toNat : Int) = ci := ⟨_, rfl⟩
  rw [hci]
  have HST := hide hci
  clear hci
  have hbl : (Lib.byteCells l).length = l.length := Lib.byteCells_length _
  obtain ⟨bs, hbs⟩ : ∃ bs, Lib.byteCells l = bs := ⟨_, rfl⟩
  unfold Bld at h
  rw [hbs] at h hbl
  have HBS := hide hbs
  have HH := hide h
  have HBL := hide hbl
  clear h hbs hbl
  go_enter Tryd.func43, Tryd.ntmps43
  go_wp2_with (go_at_call 56; refine (cc_w B b bs _ HH.out).mono ?_)
  rintro e w1 ⟨rfl, h1, hb1, hn1⟩
  obtain ⟨hB', v, hbk, hown, hne⟩ := h1
  have c0 : w1.cell? ⟨b, 0, none⟩ = some (.pointer (some ⟨b, 0, none⟩)) := by rw [Lib.cell_of_heap hbk]; rfl
  have c1 : w1.cell? ⟨b, 1, none⟩ = some v := by rw [Lib.cell_of_heap hbk]; rfl
  have hz := hb1.size
  have HB1 := hide hb1; have HN1 := hide hn1
  clear hb1 hn1
  go_wp2_with (at_builtin; refine wpList_append_own _ rfl _ _ 49 rfl B 5 i0 (.int .u8 0) 1 1 Tryd.underlying49 hi hz0 hz1 hz2 rfl (by decide) _ _ _ rfl (hown.alloc _) ⟨w1.heap.size, 0, none⟩ 1 1 [.int .u8 ci] rfl rfl ?c1 ?c2 ?c3 ?c4 ?c5 ?_)
  case c1 =>
    intro j u hj
    match j, hj with
    | 0, hj => simp at hj; subst hj; simp [Addr.add]
  case c2 => intro u hu; simp at hu; subst hu; rfl
  case c3 => have := HBL.out; unfold maxLen; omega
  case c4 => have := HBL.out; omega
  case c5 => simp; omega
  intro v' w2 hown' hgrow _
  have hlt : b < w1.heap.size := by
    rcases Nat.lt_or_ge b w1.heap.size with h' | h'
    · exact h'
    · simp [Array.getElem?_eq_none h'] at hbk
  have hb2 : w2.heap[b]? = some (.cells #[.pointer (some ⟨b, 0, none⟩), v] 51 (0, 0)) := by
    rw [hgrow.block b (by simp; omega) (fun e => hne e.symm), Lib.alloc_old w1 _ b hlt]
    exact hbk
  have d0 : w2.cell? ⟨b, 0, none⟩ = some (.pointer (some ⟨b, 0, none⟩)) := by rw [Lib.cell_of_heap hb2]; rfl
  have d1 : w2.cell? ⟨b, 1, none⟩ = some v := by rw [Lib.cell_of_heap hb2]; rfl
  have f1 : w2.frozen? ⟨b, 1, none⟩ = false := Lib.frozen_of_heap hb2 1
  obtain ⟨g, cap, rfl⟩ : ∃ g cap, v' = .slice (some ⟨g, 0, none⟩) (bs.length + 1) cap := by
    rcases hown'.2 with ⟨_, h0⟩ | ⟨g, cap, cur, hv, _⟩
    · omega
    · exact ⟨g, cap, hv⟩
  have HG := hide hgrow; have HO := hide hown'; have HN := hide (Nb.grown (b := b) (hown.alloc _) hgrow)
  have HW := hide hown
  clear hgrow hown' hown
  go_wp2
  go_ret
  refine ⟨rfl, .inr ?_, ?_, ?_⟩
  · have e1 : Lib.byteCells (l ++ [c]) = bs ++ [.int .u8 ci] := by rw [Lib.byteCells_append, HBS.out, ← HST.out]; rfl
    rw [e1]
    exact Lib.BuilderAt.put (T := 51) (e := 5) hB' hb2 (bs' := bs ++ [.int .u8 ci]) (by have := HO.out; simpa using this) bextra.neB5
  · exact ((HB1.out.alloc (by omega) _).grown HG.out (by simp; omega) (fun k hk => (HW.out.lt k hk).1)).setCell (p := ⟨b, 1, none⟩) hB' _
  · exact ((HN1.out.trans (Nb.below ((Below.refl _ _).alloc (Nat.le_refl _) _))).trans HN.out).trans (Nb.setCell _ _ _ _)

theorem Nb.freeze {b g : Nat} {w : World} {cur : Array Value} {fr : Nat × Nat} (hg : w.heap[g]? = some (.cells cur 5 fr)) (n : Nat) : Nb b w (w.freeze ⟨g, 0, none⟩ n) := by
  unfold World.freeze
  split
  · exact Nb.refl _ _
  · refine ⟨by simp, fun k o hk _ hne => ?_⟩
    have hkg : k ≠ g := by rintro rfl; rw [hg] at hk; cases hk; exact hne _ _ rfl
    show (w.heap.modify g _)[k]? = some o
    rw [Array.getElem?_modify, if_neg (fun e => hkg e.symm)]
    exact hk

set_option maxHeartbeats 1000000 in
set_option maxRecDepth 100000 in
theorem bs_w (B b : Nat) (l : List UInt8) (w : World) (h : Bld B b l w) (h0 : l ≠ []) :
    Calls Tryd.prog 27 #[.pointer (some ⟨b, 0, none⟩)] w fun e w' => e = .returned (.string ⟨l.toArray⟩) ∧ Below B w w' ∧ Nb b w w' := by
  have hmix : (Tryd.prog).follows .mixedOrders = true := by kernel_rfl
  obtain ⟨p, hB, v, hbk, hown, hne⟩ : ∃ p, Lib.BuilderAt 51 5 B b p (Lib.byteCells l) w := by
    rcases h with h | h
    · exact ⟨_, h⟩
    · exact ⟨_, h⟩
  have hl0 : l.length ≠ 0 := by simpa using h0
  rw [Lib.byteCells_length] at hown
  obtain ⟨g, cap, cur, rfl, hbg, hg, hnc, hcm, hcs, htake⟩ : ∃ g cap cur, v = .slice (some ⟨g, 0, none⟩) l.length cap ∧ B ≤ g ∧ w.heap[g]? = some (.cells cur 5 (0, 0)) ∧ l.length ≤ cap ∧ cap ≤ maxLen ∧ cur.size = cap * 1 ∧ cur.toList.take (l.length * 1) = Lib.byteCells l := by
    rcases hown.2 with ⟨_, hz⟩ | ⟨g, cap, cur, hv, r⟩
    · exact absurd hz hl0
    · exact ⟨g, cap, cur, hv, r⟩
  have c1 : w.drew.cell? ⟨b, 1, none⟩ = some (.slice (some ⟨g, 0, none⟩) l.length cap) := by
    have : w.drew.heap[b]? = some (.cells #[p, .slice (some ⟨g, 0, none⟩) l.length cap] 51 (0, 0)) := hbk
    rw [Lib.cell_of_heap this]; rfl
  have hSD : (Builtin.unsafeSliceData_ #[49] 82 #[.slice (some ⟨g, 0, none⟩) l.length cap]).run Tryd.prog w.drew = .ok (.pointer (some ⟨g, 0, none⟩)) w.drew :=
    Lib.run_unsafeSliceData_row _ _ _ _ _ _ (by omega)
  have hUS : (Builtin.unsafeString_ #[82, 3] 9 #[.pointer (some ⟨g, 0, none⟩), .int .i64 l.length]).run Tryd.prog w.drew = .ok (.string ⟨l.toArray⟩) (w.drew.freeze ⟨g, 0, none⟩ l.length) := by
    refine Lib.run_unsafeString_row w.drew 82 3 9 5 Tryd.underlying82 bextra.cellsByte g cur.size (by have hg' : w.drew.heap[g]? = some (.cells cur 5 (0, 0)) := hg; simp [World.shape?, hg']) l h0 (by omega) (by unfold maxLen at hcm; omega) ?_
    intro j x hx
    have := hown.cells (g := g) rfl j (.int .u8 x.toNat) (by simp [Lib.byteCells, hx])
    exact this
  have HG := hide hg
  clear hg htake hcs hbk hown
  go_enter Tryd.func27, Tryd.ntmps27
  go_wp2
  go_region_o
  all_goals (go_wp2; go_ret; exact ⟨rfl, Lib.below_freeze (Below.drew (Below.refl B w)) (p := ⟨g, 0, none⟩) hbg _, (Nb.below (w' := w.drew) (Below.drew (Below.refl _ _))).trans (Nb.freeze (w := w.drew) HG.out _)⟩)
end Go.Proofs.YtfbgnnelnpcbiaaDoor

/- strconv.Itoa at this seat's program: the numeral of a number, and new blocks alone behind the heap. -/
namespace Go.Proofs.YtfbgnnelnpcbiaaDoor
open Go Go.RowKit Go.Shelf Go.Proofs Go.Sort
def laysM171_ren : Go.Shelf.Ren := ⟨fun | 171 => 44 | 243 => 57 | 246 => 65 | 283 => 67 | 284 => 68 | 285 => 69 | 286 => 70 | 129 => 72 | 317 => 71 | 318 => 73 | 319 => 74 | 320 => 75 | 337 => 76 | 338 => 77 | n => n, fun | 3 => 3 | 9 => 9 | 2 => 2 | 4 => 4 | 171 => 99 | 0 => 0 | 53 => 83 | 37 => 49 | 5 => 5 | 173 => 102 | 212 => 106 | 51 => 107 | 20 => 20 | 213 => 108 | 46 => 110 | 232 => 113 | 233 => 114 | n => n, fun | 17 => 0 | 18 => 1 | 19 => 2 | n => n⟩
theorem laysM171 : Go.Proofs.LaysM.n171 Tryd.prog laysM171_ren := {
  mixed := by kernel_rfl
  f129 := Tryd.func72.trans (congrArg some (by kernel_rfl))
  f171 := Tryd.func44.trans (congrArg some (by kernel_rfl))
  f243 := Tryd.func57.trans (congrArg some (by kernel_rfl))
  f246 := Tryd.func65.trans (congrArg some (by kernel_rfl))
  f283 := Tryd.func67.trans (congrArg some (by kernel_rfl))
  f284 := Tryd.func68.trans (congrArg some (by kernel_rfl))
  f285 := Tryd.func69.trans (congrArg some (by kernel_rfl))
  f286 := Tryd.func70.trans (congrArg some (by kernel_rfl))
  f317 := Tryd.func71.trans (congrArg some (by kernel_rfl))
  f318 := Tryd.func73.trans (congrArg some (by kernel_rfl))
  f319 := Tryd.func74.trans (congrArg some (by kernel_rfl))
  f320 := Tryd.func75.trans (congrArg some (by kernel_rfl))
  f337 := Tryd.func76.trans (congrArg some (by kernel_rfl))
  f338 := Tryd.func77.trans (congrArg some (by kernel_rfl))
  t0 := Tryd.underlying0
  a0 := Tryd.isAgg0
  z0 := Tryd.sizeOf0
  v0 := Tryd.zeroValue0
  t2 := Tryd.underlying2
  a2 := Tryd.isAgg2
  z2 := Tryd.sizeOf2
  v2 := Tryd.zeroValue2
  t3 := Tryd.underlying3
  a3 := Tryd.isAgg3
  z3 := Tryd.sizeOf3
  v3 := Tryd.zeroValue3
  t4 := Tryd.underlying4
  a4 := Tryd.isAgg4
  z4 := Tryd.sizeOf4
  v4 := Tryd.zeroValue4
  t5 := Tryd.underlying5
  a5 := Tryd.isAgg5
  z5 := Tryd.sizeOf5
  v5 := Tryd.zeroValue5
  t9 := Tryd.underlying9
  a9 := Tryd.isAgg9
  z9 := Tryd.sizeOf9
  v9 := Tryd.zeroValue9
  t20 := Tryd.underlying20
  a20 := Tryd.isAgg20
  z20 := Tryd.sizeOf20
  v20 := Tryd.zeroValue20
  t37 := Tryd.underlying49
  a37 := Tryd.isAgg49
  z37 := Tryd.sizeOf49
  v37 := Tryd.zeroValue49
  t46 := Tryd.underlying110
  a46 := Tryd.isAgg110
  z46 := Tryd.sizeOf110
  v46 := Tryd.zeroValue110
  t51 := Tryd.underlying107
  a51 := Tryd.isAgg107
  z51 := Tryd.sizeOf107
  v51 := Tryd.zeroValue107
  t53 := Tryd.underlying83
  a53 := Tryd.isAgg83
  z53 := Tryd.sizeOf83
  v53 := Tryd.zeroValue83
  t171 := Tryd.underlying99
  a171 := Tryd.isAgg99
  z171 := Tryd.sizeOf99
  v171 := Tryd.zeroValue99
  t173 := Tryd.underlying102
  a173 := Tryd.isAgg102
  z173 := Tryd.sizeOf102
  v173 := Tryd.zeroValue102
  t212 := Tryd.underlying106
  a212 := Tryd.isAgg106
  z212 := Tryd.sizeOf106
  v212 := Tryd.zeroValue106
  t213 := Tryd.underlying108
  a213 := Tryd.isAgg108
  z213 := Tryd.sizeOf108
  t232 := Tryd.underlying113
  a232 := Tryd.isAgg113
  z232 := Tryd.sizeOf113
  v232 := Tryd.zeroValue113
  t233 := Tryd.underlying114
  a233 := Tryd.isAgg114
  z233 := Tryd.sizeOf114
  v233 := Tryd.zeroValue114
  g17 := by kernel_rfl
  g18 := by kernel_rfl
  g19 := by kernel_rfl
  i0 := by kernel_rfl
  i2 := by kernel_rfl
  i3 := by kernel_rfl
  i4 := by kernel_rfl
  i5 := by kernel_rfl
  i9 := by kernel_rfl
  i20 := by kernel_rfl
  i37 := by kernel_rfl
  i46 := by kernel_rfl
  i51 := by kernel_rfl
  i53 := by kernel_rfl
  i171 := by kernel_rfl
  i173 := by kernel_rfl
  i212 := by kernel_rfl
  i232 := by kernel_rfl
  i233 := by kernel_rfl
  m17 := by kernel_rfl
  m18 := by kernel_rfl
  m19 := by kernel_rfl }

theorem below_grow (w : World) (os : Array Obj) : Below w.heap.size w (grow w os) := by
  refine ⟨rfl, rfl, rfl, ?_, fun k hk => ?_⟩
  · show w.heap.size ≤ (w.heap ++ os).size
    rw [Array.size_append]; omega
  · show (w.heap ++ os)[k]? = w.heap[k]?
    exact Array.getElem?_append_left hk
theorem itoa_w (m : Nat) (h : m ≤ 1000000) (w : World) (htab : Lib.TabIs Tryd.prog w "internal/strconv.uint64pow10" .u64 Lib.pow10Tab) :
    Calls Tryd.prog 44 #[.int .i64 (m : Int)] w fun e w' => e = .returned (.string ⟨(Lib.decDigits m).toArray⟩) ∧ Below w.heap.size w w' := by
  refine (Any.strconv_Itoa laysM171 (m : Int) (by omega) (by omega) w htab).mono ?_
  rintro e w' ⟨rfl, k, os, rfl⟩
  refine ⟨?_, ?_⟩
  · unfold Lib.itoa
    rw [if_neg (by omega), Int.toNat_natCast]
  · exact (below_drewN (Below.refl _ _) k).trans ((below_grow (w.drewN k) os).mono (Nat.le_refl _))
end Go.Proofs.YtfbgnnelnpcbiaaDoor

namespace Go.Proofs.YtfbgnnelnpcbiaaDoor
open Go.RowKit Go.Shelf

theorem Bld.below {B b : Nat} {l : List UInt8} {w w' : World} (h : Bld B b l w) (hb : Below w.heap.size w w') : Bld B b l w' := by
  have f : ∀ p, Lib.BuilderAt 51 5 B b p (Lib.byteCells l) w → Lib.BuilderAt 51 5 B b p (Lib.byteCells l) w' := by
    rintro p ⟨h1, v, h2, h3, h4⟩
    refine ⟨h1, v, ?_, ?_, h4⟩
    · have hlt : b < w.heap.size := by
        rcases Nat.lt_or_ge b w.heap.size with h | h
        · exact h
        · rw [Array.getElem?_eq_none h] at h2; cases h2
      rw [hb.block b hlt]; exact h2
    · exact World.ownsRow.kept h3 (below_gb (B := 0) hb) (by
        cases e : v.ownBlock with
        | none => exact .inl rfl
        | some k => exact .inr (by simp))
  exact Or.elim h (fun x => .inl (f _ x)) (fun x => .inr (f _ x))

set_option maxRecDepth 100000 in
set_option maxHeartbeats 4000000 in
theorem printLine_w (B b : Nat) (l word : List UInt8) (a : Option Addr) (n cap : Nat) (xs : List Int) (w : World) (hB : B ≤ w.heap.size) (h : Bld B b l w) (hI : ∀ V, Below B w V → Nb b w V → IsL V (.slice a n cap) xs) (hx : ∀ x ∈ xs, 0 ≤ x ∧ x ≤ 1000000) (hl : xs.length ≤ 1000) (hw : word.length ≤ 100) (hll : l.length ≤ 10000000000)
    (htab : ∀ V, Below B w V → Lib.TabIs Tryd.prog V "internal/strconv.uint64pow10" .u64 Lib.pow10Tab) :
    Calls Tryd.prog 24 #[.pointer (some ⟨b, 0, none⟩), .string ⟨word.toArray⟩, .slice a n cap] w fun e w' => e = .returned (.tuple #[]) ∧ Bld B b (l ++ lineB word xs) w' ∧ Below B w w' ∧ Nb b w w' := by
  have hn : n = xs.length := by obtain ⟨_, _, hv, _⟩ := hI w (Below.refl _ _) (Nb.refl _ _); cases hv; rfl
  subst hn
  have hnl := nums_len (l := xs) (fun x hx' => (hx x hx').2)
  have HWS := hide (ws_w B b l word w h (by omega) hB)
  have HI := hide hI; have HX := hide hx; have HT := hide htab
  clear h hI hx htab
  go_enter Tryd.func24, Tryd.ntmps24
  go_wp2_with fail
  refine HWS.out.mono ?_
  rintro e w1 ⟨rfl, hb1, hw1, hk1⟩
  have HBD := hide hb1; have HW1 := hide hw1; have HK1 := hide hk1
  clear hb1 hw1 hk1 HWS
  go_wp2_with fail
  go_loopw [7, 13] (fun _ i wr => ∃ k : Nat, i = .int .i64 k ∧ k ≤ xs.length ∧ Hid (Bld B b (l ++ (word ++ (xs.take k).flatMap numB)) wr) ∧ Hid (Below B w wr) ∧ Hid (Nb b w wr)) (fun _ i _ => xs.length - (intOf i).toNat)
  case atStart => exact ⟨0, rfl, Nat.zero_le _, hide (by simpa using HBD.out), HW1, HK1⟩
  case round =>
    obtain ⟨k, rfl, hk, hbd, hbel, hnb⟩ := hrel
    have hsz := hbel.out.size
    have htl := nums_len (l := xs.take k) (fun x hx' => (HX.out x (List.mem_of_mem_take hx')).2)
    have htk : (xs.take k).length = k := by rw [List.length_take]; omega
    rw [htk] at htl
    have hsl : (l ++ (word ++ (xs.take k).flatMap numB)).length ≤ 10000000100 + 1000002 * k := by rw [List.length_append, List.length_append]; omega
    obtain ⟨s, hs⟩ : ∃ s, l ++ (word ++ (xs.take k).flatMap numB) = s := ⟨_, rfl⟩
    rw [hs] at hsl hbd
    have HS := hide hs
    have hBr : B ≤ wr.heap.size := by omega
    clear hs htl htk
    by_cases hlt : k < xs.length
    · have hl3 : (k : Int) < xs.length := by omega
      obtain ⟨b1, off, rfl⟩ : ∃ b o, a = some ⟨b, o, none⟩ := by
        obtain ⟨_, _, hv, _, _, _, h4⟩ := HI.out w (Below.refl _ _) (Nb.refl _ _)
        obtain ⟨rfl, _, _⟩ := Value.slice.inj hv
        obtain ⟨b, o, e, _⟩ := h4 (by intro h; rw [h] at hlt; simp at hlt)
        exact ⟨b, o, e⟩
      have cx := rowL_at (HI.out wr hbel.out hnb.out) hlt
      have hb := HX.out (at_ xs k) (by rw [at_get hlt]; exact List.getElem_mem hlt)
      have hst : (xs.take (k + 1)).flatMap numB = (xs.take k).flatMap numB ++ numB (at_ xs k) := by rw [← take_snoc _ _ hlt, List.flatMap_append]; simp
      obtain ⟨x, hxx⟩ : ∃ x, at_ xs k = x := ⟨_, rfl⟩
      rw [hxx] at cx hb hst
      obtain ⟨m, rfl⟩ : ∃ m : Nat, x = (m : Int) := ⟨x.toNat, by omega⟩
      have hm6 : m ≤ 1000000 := by omega
      have HST := hide hst
      have hdl := dec_len m
      have hwb : Calls Tryd.prog 43 #[.pointer (some ⟨b, 0, none⟩), .int .u8 32] wr fun e w' => e = .returned .nilIface ∧ Bld B b (s ++ [32]) w' ∧ Below B wr w' ∧ Nb b wr w' := wb_w B b s 32 wr hbd.out (by omega) hBr
      have HWB := hide hwb
      clear hwb hst hxx hb
      go_wp2_with fail
      refine HWB.out.mono ?_
      rintro e w2 ⟨rfl, hb2, hw2, hk2⟩
      have hB2 := hbel.out.trans hw2
      have HK2 := hide (hnb.out.trans hk2)
      clear hk2
      have hit := itoa_w m hm6 w2 (HT.out w2 hB2)
      have HIT := hide hit; have H2 := hide hb2; have HB2 := hide hB2
      have hz2 : B ≤ w2.heap.size := by have := hw2.size; omega
      clear hit hb2 hB2 hw2 HWB
      go_wp2_with fail
      refine HIT.out.mono ?_
      rintro e w3 ⟨rfl, hb3⟩
      have hws := ws_w B b (s ++ [32]) (Lib.decDigits m) w3 (H2.out.below hb3) (by rw [List.length_append]; simp; omega) (by have := hb3.size; omega)
      have HWS := hide hws; have HB3 := hide (HB2.out.trans (hb3.mono hz2)); have HK3 := hide (HK2.out.trans (Nb.below hb3))
      clear hws hb3 HIT
      go_wp2_with fail
      refine HWS.out.mono ?_
      rintro e w4 ⟨rfl, hb4, hw4, hk4⟩
      have HB4 := hide (HB3.out.trans hw4)
      have H4 := hide hb4; have HK4 := hide (HK3.out.trans hk4)
      clear hb4 hw4 hk4 HWS
      go_wp2_with fail
      go_roundw
      case rel =>
        refine ⟨k + 1, by go_num, by omega, hide ?_, HB4, HK4⟩
        have e2 : l ++ (word ++ (xs.take (k + 1)).flatMap numB) = s ++ [32] ++ Lib.decDigits m := by
          rw [HST.out, ← List.append_assoc word, ← List.append_assoc l, HS.out, List.append_assoc]
          unfold numB
          rw [Int.toNat_natCast]
          rfl
        rw [e2]
        exact H4.out
      case measure => simp [intOf]; omega
    · have hl3 : ¬ ((k : Int) < xs.length) := by omega
      have hwb : Calls Tryd.prog 43 #[.pointer (some ⟨b, 0, none⟩), .int .u8 10] wr fun e w' => e = .returned .nilIface ∧ Bld B b (s ++ [10]) w' ∧ Below B wr w' ∧ Nb b wr w' := wb_w B b s 10 wr hbd.out (by omega) hBr
      have HWB := hide hwb
      have hsx : l ++ lineB word xs = s ++ [10] := by
        have := HS.out
        rw [List.take_of_length_le (by omega)] at this
        unfold lineB
        rw [← List.append_assoc l, this]
      have HSX := hide hsx
      clear hwb hsx
      go_wp2_with fail
      refine HWB.out.mono ?_
      rintro e w2 ⟨rfl, hb2, hw2, hk2⟩
      have HK2 := hide (hnb.out.trans hk2); have HW2 := hide hw2; have HB2 := hide hb2
      clear hk2 hw2 hb2
      go_wp2_with fail
      go_end0
      exact ⟨rfl, by rw [HSX.out]; exact HB2.out, hbel.out.trans HW2.out, HK2.out⟩
end Go.Proofs.YtfbgnnelnpcbiaaDoor

namespace Go.Proofs.YtfbgnnelnpcbiaaDoor
open Go.RowKit Go.Shelf

theorem drew_more {w w'' : World} {n x q : Nat} (h : w'' = (w.drewN (n + x)).drewN q) : ∃ m, w'' = w.drewN (n + m) := ⟨x + q, by rw [h, World.drewN_drewN, Nat.add_assoc]⟩

set_option maxRecDepth 100000 in
set_option maxHeartbeats 2000000 in
theorem sameRows_w (a1 a2 : Option Addr) (n1 n2 c1 c2 : Nat) (us vs : List Value) (G : List (List Int)) (w : World) (h1 : IsRB w.heap.size w (.slice a1 n1 c1) us G) (h2 : IsRB w.heap.size w (.slice a2 n2 c2) vs G) :
    Calls Tryd.prog 12 #[.slice a1 n1 c1, .slice a2 n2 c2] w fun e w' => e = .returned (.bool true) ∧ Drew w w' := by
  obtain ⟨_, r1, _, _, hv1, l1, m1, k1⟩ := h1
  obtain ⟨_, r2, _, _, hv2, l2, m2, k2⟩ := h2
  obtain ⟨rfl, rfl, rfl⟩ := Value.slice.inj hv1
  obtain ⟨rfl, rfl, rfl⟩ := Value.slice.inj hv2
  unfold maxLen at m1 m2
  have d1 : ((G.length : Int) != (G.length : Int)) = false := by simp
  have HR1 := hide r1; have HR2 := hide r2
  clear r1 r2 hv1 hv2
  go_enter Tryd.func12, Tryd.ntmps12
  go_wp2_with fail
  go_loopw [5] (fun i wr => ∃ k n : Nat, i = .int .i64 k ∧ k ≤ G.length ∧ wr = w.drewN n) (fun i _ => G.length - (intOf i).toNat)
  case atStart => exact ⟨0, 0, rfl, Nat.zero_le _, rfl⟩
  case round =>
    obtain ⟨k, n, rfl, hk, rfl⟩ := hrel
    by_cases hlt : k < G.length
    · obtain ⟨b1, o1, rfl, hb1, q1⟩ := k1 (by intro h; subst h; simp at hlt)
      obtain ⟨b2, o2, rfl, hb2, q2⟩ := k2 (by intro h; subst h; simp at hlt)
      have e1 := q1 k hlt
      have e2 := q2 k hlt
      have x1 := HR1.out k hlt
      have x2 := HR2.out k hlt
      obtain ⟨r, hr⟩ : ∃ r, G[k]?.getD [] = r := ⟨_, rfl⟩
      rw [hr] at x1 x2
      obtain ⟨y1, d1, hy1, _⟩ := id x1
      obtain ⟨y2, d2, hy2, _⟩ := id x2
      rw [hy1] at x1 e1
      rw [hy2] at x2 e2
      have hS := fun m : Nat => sameInts_w _ _ r (w.drewN m) (IsL.drewN x1 m) (IsL.drewN x2 m)
      have HS := hide hS
      have hl3 : (k : Int) < G.length := by omega
      clear hS x1 x2 hy1 hy2 hr q1 q2
      go_wp2_with fail
      go_quiet ((go_at_call 29; exact (HS.out _).mono fun _ _ ⟨h, q, hq⟩ => ⟨h, drew_more hq⟩))
      go_wp2
      go_roundw
      case rel => exact ⟨k + 1, _, by go_num, by omega, (by first | rfl | exact World.drewN_drewN _ _ _)⟩
      case measure => simp [intOf]; omega
    · have hl3 : ¬ ((k : Int) < G.length) := by omega
      go_wp2
      go_ret
      exact ⟨rfl, (by first | exact ⟨_, rfl⟩ | exact ⟨_, World.drewN_drewN _ _ _⟩)⟩
end Go.Proofs.YtfbgnnelnpcbiaaDoor

namespace Go.Proofs.YtfbgnnelnpcbiaaDoor
open Go.RowKit Go.Shelf

theorem blk_below' {w w' : World} {g : Nat} {t : TypeId} {cs : Array Value} (h : Blk w g t cs) (hb : Below w.heap.size w w') : Blk w' g t cs := (hb.block g h.lt).trans h

set_option maxRecDepth 100000 in
set_option maxHeartbeats 8000000 in
theorem lawTables_w (a1 a2 a3 : Option Addr) (n1 n2 n3 c1 c2 c3 : Nat) (vs : List Value) (S W : List Int) (H : List (List Int)) (w : World) (i1 : IsL w (.slice a1 n1 c1) S) (i2 : IsL w (.slice a2 n2 c2) W) (i3 : IsRB w.heap.size w (.slice a3 n3 c3) vs H)
    (PR : ∀ V, Below w.heap.size w V → Calls Tryd.prog 10 #[.agg #[.slice a1 n1 c1, .slice a2 n2 c2, .slice a3 n3 c3]] V fun e w' => e = .returned (.tuple #[.string ⟨(printE S W H).toArray⟩, .int .i64 (tabE S W H)]) ∧ Below V.heap.size V w') :
    Calls Tryd.prog 3 #[.agg #[.slice a1 n1 c1, .slice a2 n2 c2, .slice a3 n3 c3]] w fun e w' => e = .returned (.bool true) ∧ Below w.heap.size w w' := by
  have T : ∀ V, Below w.heap.size w V → IsL V (.slice a1 n1 c1) S ∧ IsL V (.slice a2 n2 c2) W ∧ IsRB V.heap.size V (.slice a3 n3 c3) vs H := fun V hb => ⟨i1.below hb, i2.below hb, (i3.below hb).more hb.size⟩
  have G1 := fun V hb => Grid_w a1 a2 n1 n2 c1 c2 S W V (T V hb).1 (T V hb).2.1
  have G2 := fun V hb => rGrid_w a1 a2 n1 n2 c1 c2 S W V (T V hb).1 (T V hb).2.1
  have G3 := fun V hb => Volume_w a1 a2 a3 n1 n2 n3 c1 c2 c3 vs S W H V (T V hb).1 (T V hb).2.1 (T V hb).2.2
  have G4 := fun V hb => rVolume_w a1 a2 a3 n1 n2 n3 c1 c2 c3 vs S W H V (T V hb).1 (T V hb).2.1 (T V hb).2.2
  have G5 := fun V hb => Litres_w a1 a2 a3 n1 n2 n3 c1 c2 c3 vs S W H V (T V hb).1 (T V hb).2.1 (T V hb).2.2
  have G6 := fun V hb => rLitres_w a1 a2 a3 n1 n2 n3 c1 c2 c3 vs S W H V (T V hb).1 (T V hb).2.1 (T V hb).2.2
  have G8 := fun V hb => rPrint_w a1 a2 a3 n1 n2 n3 c1 c2 c3 vs S W H V (T V hb).1 (T V hb).2.1 (T V hb).2.2
  have G9 := fun V hb => CheckTable_w (.slice a1 n1 c1) (.slice a2 n2 c2) (.slice a3 n3 c3) vs S W H V (T V hb).1 (T V hb).2.1 (T V hb).2.2
  have G10 := fun V hb => rCheckTable_w (.slice a1 n1 c1) (.slice a2 n2 c2) (.slice a3 n3 c3) vs S W H V (T V hb).1 (T V hb).2.1 (T V hb).2.2
  obtain ⟨pe, hpe⟩ : ∃ z, planE S W = z := ⟨_, rfl⟩
  obtain ⟨te, hte⟩ : ∃ z, tabE S W H = z := ⟨_, rfl⟩
  obtain ⟨ve, hve⟩ : ∃ z, volE S W H = z := ⟨_, rfl⟩
  obtain ⟨le, hle⟩ : ∃ z, litE S W H = z := ⟨_, rfl⟩
  obtain ⟨st, hst⟩ : ∃ z, (⟨(printE S W H).toArray⟩ : ByteArray) = z := ⟨_, rfl⟩
  unfold GridOf at G1 G2
  obtain ⟨gl, hgl⟩ : ∃ z, (if planB S W = true then gridL S W else []) = z := ⟨_, rfl⟩
  rw [hpe, hgl] at G1 G2
  rw [hve, hte] at G3 G4
  rw [hle, hte] at G5 G6
  rw [hst, hte] at G8 PR
  rw [hte] at G9 G10
  have H1 := hide G1
  have H2 := hide G2
  have H3 := hide G3
  have H4 := hide G4
  have H5 := hide G5
  have H6 := hide G6
  have H8 := hide G8
  have H9 := hide G9
  have H10 := hide G10
  have H7 := hide PR
  clear G1 G2 G3 G4 G5 G6 G8 G9 G10 PR T i1 i2 i3 hpe hte hve hle hst hgl
  go_enter Tryd.func3, Tryd.ntmps3
  go_wp2_with fail
  have k0 : Below w.heap.size w (w.alloc (.cells #[.slice a1 n1 c1, .slice a2 n2 c2, .slice a3 n3 c3] 25)) := (Below.refl _ _).alloc (Nat.le_refl _) _
  have B0 : Blk (w.alloc (.cells #[.slice a1 n1 c1, .slice a2 n2 c2, .slice a3 n3 c3] 25)) w.heap.size 25 #[.slice a1 n1 c1, .slice a2 n2 c2, .slice a3 n3 c3] := Blk.new _ _ _
  refine (H1.out _ k0).mono ?_
  rintro e w1 ⟨v1, vv1, rfl, hg1, hb⟩
  obtain ⟨_, _, y1, z1, rfl, _⟩ := id hg1
  have GG1 := hide hg1
  clear hg1
  have k1 := back k0 hb
  have B1 := blk_below' B0 hb
  have c1_0 : w1.cell? ⟨w.heap.size, 0, none⟩ = some (.slice a1 n1 c1) := B1.cell 0
  have c1_1 : w1.cell? ⟨w.heap.size, 1, none⟩ = some (.slice a2 n2 c2) := B1.cell 1
  have c1_2 : w1.cell? ⟨w.heap.size, 2, none⟩ = some (.slice a3 n3 c3) := B1.cell 2
  clear hb
  have KB1 := hide B1
  have KK1 := hide k1
  go_wp2_with fail
  refine (H2.out _ k1).mono ?_
  rintro e w2 ⟨v2, vv2, rfl, hg2, hb⟩
  obtain ⟨_, _, y2, z2, rfl, _⟩ := id hg2
  have GG2 := hide hg2
  clear hg2
  have k2 := back k1 hb
  have B2 := blk_below' B1 hb
  have GG1' := hide ((GG1.out.below hb).more hb.size)
  clear GG1
  have c2_0 : w2.cell? ⟨w.heap.size, 0, none⟩ = some (.slice a1 n1 c1) := B2.cell 0
  have c2_1 : w2.cell? ⟨w.heap.size, 1, none⟩ = some (.slice a2 n2 c2) := B2.cell 1
  have c2_2 : w2.cell? ⟨w.heap.size, 2, none⟩ = some (.slice a3 n3 c3) := B2.cell 2
  clear c1_0 c1_1 c1_2
  clear hb
  have KB2 := hide B2
  have KK2 := hide k2
  go_wp2_with fail
  refine (H3.out _ k2).mono ?_
  rintro e w3 ⟨rfl, hb⟩
  have k3 := back k2 hb
  have B3 := blk_below' B2 hb
  have GG1'' := hide ((GG1'.out.below hb).more hb.size)
  clear GG1'
  have GG2' := hide ((GG2.out.below hb).more hb.size)
  clear GG2
  have c3_0 : w3.cell? ⟨w.heap.size, 0, none⟩ = some (.slice a1 n1 c1) := B3.cell 0
  have c3_1 : w3.cell? ⟨w.heap.size, 1, none⟩ = some (.slice a2 n2 c2) := B3.cell 1
  have c3_2 : w3.cell? ⟨w.heap.size, 2, none⟩ = some (.slice a3 n3 c3) := B3.cell 2
  clear c2_0 c2_1 c2_2
  clear hb
  have KB3 := hide B3
  have KK3 := hide k3
  go_wp2_with fail
  refine (H4.out _ k3).mono ?_
  rintro e w4 ⟨rfl, hb⟩
  have k4 := back k3 hb
  have B4 := blk_below' B3 hb
  have GG1''' := hide ((GG1''.out.below hb).more hb.size)
  clear GG1''
  have GG2'' := hide ((GG2'.out.below hb).more hb.size)
  clear GG2'
  have c4_0 : w4.cell? ⟨w.heap.size, 0, none⟩ = some (.slice a1 n1 c1) := B4.cell 0
  have c4_1 : w4.cell? ⟨w.heap.size, 1, none⟩ = some (.slice a2 n2 c2) := B4.cell 1
  have c4_2 : w4.cell? ⟨w.heap.size, 2, none⟩ = some (.slice a3 n3 c3) := B4.cell 2
  clear c3_0 c3_1 c3_2
  clear hb
  have KB4 := hide B4
  have KK4 := hide k4
  go_wp2_with fail
  refine (H5.out _ k4).mono ?_
  rintro e w5 ⟨rfl, hb⟩
  have k5 := back k4 hb
  have B5 := blk_below' B4 hb
  have GG1'''' := hide ((GG1'''.out.below hb).more hb.size)
  clear GG1'''
  have GG2''' := hide ((GG2''.out.below hb).more hb.size)
  clear GG2''
  have c5_0 : w5.cell? ⟨w.heap.size, 0, none⟩ = some (.slice a1 n1 c1) := B5.cell 0
  have c5_1 : w5.cell? ⟨w.heap.size, 1, none⟩ = some (.slice a2 n2 c2) := B5.cell 1
  have c5_2 : w5.cell? ⟨w.heap.size, 2, none⟩ = some (.slice a3 n3 c3) := B5.cell 2
  clear c4_0 c4_1 c4_2
  clear hb
  have KB5 := hide B5
  have KK5 := hide k5
  go_wp2_with fail
  refine (H6.out _ k5).mono ?_
  rintro e w6 ⟨rfl, hb⟩
  have k6 := back k5 hb
  have B6 := blk_below' B5 hb
  have GG1''''' := hide ((GG1''''.out.below hb).more hb.size)
  clear GG1''''
  have GG2'''' := hide ((GG2'''.out.below hb).more hb.size)
  clear GG2'''
  have c6_0 : w6.cell? ⟨w.heap.size, 0, none⟩ = some (.slice a1 n1 c1) := B6.cell 0
  have c6_1 : w6.cell? ⟨w.heap.size, 1, none⟩ = some (.slice a2 n2 c2) := B6.cell 1
  have c6_2 : w6.cell? ⟨w.heap.size, 2, none⟩ = some (.slice a3 n3 c3) := B6.cell 2
  clear c5_0 c5_1 c5_2
  clear hb
  have KB6 := hide B6
  have KK6 := hide k6
  go_wp2_with fail
  refine (H7.out _ k6).mono ?_
  rintro e w7 ⟨rfl, hb⟩
  have k7 := back k6 hb
  have B7 := blk_below' B6 hb
  have GG1'''''' := hide ((GG1'''''.out.below hb).more hb.size)
  clear GG1'''''
  have GG2''''' := hide ((GG2''''.out.below hb).more hb.size)
  clear GG2''''
  have c7_0 : w7.cell? ⟨w.heap.size, 0, none⟩ = some (.slice a1 n1 c1) := B7.cell 0
  have c7_1 : w7.cell? ⟨w.heap.size, 1, none⟩ = some (.slice a2 n2 c2) := B7.cell 1
  have c7_2 : w7.cell? ⟨w.heap.size, 2, none⟩ = some (.slice a3 n3 c3) := B7.cell 2
  clear c6_0 c6_1 c6_2
  clear hb
  have KB7 := hide B7
  have KK7 := hide k7
  go_wp2_with fail
  refine (H8.out _ k7).mono ?_
  rintro e w8 ⟨rfl, hb⟩
  have k8 := back k7 hb
  have B8 := blk_below' B7 hb
  have GG1''''''' := hide ((GG1''''''.out.below hb).more hb.size)
  clear GG1''''''
  have GG2'''''' := hide ((GG2'''''.out.below hb).more hb.size)
  clear GG2'''''
  have c8_0 : w8.cell? ⟨w.heap.size, 0, none⟩ = some (.slice a1 n1 c1) := B8.cell 0
  have c8_1 : w8.cell? ⟨w.heap.size, 1, none⟩ = some (.slice a2 n2 c2) := B8.cell 1
  have c8_2 : w8.cell? ⟨w.heap.size, 2, none⟩ = some (.slice a3 n3 c3) := B8.cell 2
  clear c7_0 c7_1 c7_2
  clear hb
  have KB8 := hide B8
  have KK8 := hide k8
  have hS := sameRows_w _ _ _ _ _ _ _ _ gl w8 GG1'''''''.out GG2''''''.out
  have HS := hide hS
  clear hS
  go_wp2_with (go_at_call 12; refine HS.out.mono ?_; rintro e w' ⟨rfl, q, rfl⟩)
  have kp : ∀ V : World, Below w8.heap.size w8 V → V.cell? ⟨w.heap.size, 0, none⟩ = some (.slice a1 n1 c1) ∧ V.cell? ⟨w.heap.size, 1, none⟩ = some (.slice a2 n2 c2) ∧ V.cell? ⟨w.heap.size, 2, none⟩ = some (.slice a3 n3 c3) ∧ Below w8.heap.size w8 V := fun V hb => ⟨(blk_below' KB8.out hb).cell 0, (blk_below' KB8.out hb).cell 1, (blk_below' KB8.out hb).cell 2, hb⟩
  have kw : ∀ V : World, Below w8.heap.size w8 V → Below w.heap.size w V := fun V hb => back KK8.out hb
  have KP := hide kp; have KW := hide kw
  have d1 : (pe == pe) = true := by simp
  have d2 : (te == te) = true := by simp
  clear kp kw c8_0 c8_1 c8_2 k0 k1 k2 k3 k4 k5 k6 k7 k8 B0 B1 B2 B3 B4 B5 B6 B7 B8
  have ST := hide (KP.out _ (below_drewN (Below.refl w8.heap.size w8) q))
  obtain ⟨wq, hwq⟩ : ∃ z, w8.drewN q = z := ⟨_, rfl⟩
  rw [hwq] at ST ⊢
  clear hwq
  go_wp2_with fail
  go_region_held3 (fun V => V.cell? ⟨w.heap.size, 0, none⟩ = some (.slice a1 n1 c1) ∧ V.cell? ⟨w.heap.size, 1, none⟩ = some (.slice a2 n2 c2) ∧ V.cell? ⟨w.heap.size, 2, none⟩ = some (.slice a3 n3 c3) ∧ Below w8.heap.size w8 V) (first | exact ST.out | assumption | (refine KP.out _ ?_; first | exact below_drewN ST.out.2.2.2 1 | exact back (show _ ∧ _ ∧ _ ∧ Below w8.heap.size w8 _ by assumption).2.2.2 (by assumption) | exact back (below_drewN ST.out.2.2.2 1) (by assumption) | exact back ST.out.2.2.2 (by assumption)))
    (first
      | (go_at_call 13; refine (H9.out _ (KW.out _ (by first | exact ST.out.2.2.2 | exact below_drewN ST.out.2.2.2 1 | exact (show _ ∧ _ ∧ _ ∧ Below w8.heap.size w8 _ by assumption).2.2.2))).mono ?_; rintro e w' ⟨rfl, hb⟩)
      | (go_at_call 14; refine (H10.out _ (KW.out _ (by first | exact ST.out.2.2.2 | exact below_drewN ST.out.2.2.2 1 | exact (show _ ∧ _ ∧ _ ∧ Below w8.heap.size w8 _ by assumption).2.2.2))).mono ?_; rintro e w' ⟨rfl, hb⟩)
      | (go_at_call 15; refine (sane_w _).mono ?_; rintro e w' ⟨rfl, hb⟩))
  have hE : Below w8.heap.size w8 _ := (show _ ∧ _ ∧ _ ∧ Below w8.heap.size w8 w' by assumption).2.2.2
  go_wp2_with fail
  go_ret
  exact ⟨rfl, KW.out _ hE⟩
end Go.Proofs.YtfbgnnelnpcbiaaDoor
