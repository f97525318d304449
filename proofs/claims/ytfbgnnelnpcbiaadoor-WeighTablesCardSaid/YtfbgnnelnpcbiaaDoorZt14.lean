import Derived.Test.YtfbgnnelnpcbiaaDoorZt13
import Derived.Test.YtfbgnnelnpcbiaaDoorZt12
set_option linter.unusedVariables false
set_option linter.unusedSimpArgs false
namespace Go.Proofs.YtfbgnnelnpcbiaaDoor
open Go.RowKit Go.Shelf

attribute [local go_sem] Oper.semAt_some

theorem Own.nb {B b : Nat} {w w' : World} {v : Value} {xs : List Int} (h : Own B w v xs) (hn : Nb b w w') (hb : b < B) : Own B w' v xs := by
  refine ⟨h.1, ?_⟩
  rcases h.2 with hx | ⟨g, cap, cur, rfl, hg, hgg, rest⟩
  · exact .inl hx
  · refine .inr ⟨g, cap, cur, rfl, hg, hn.2 g _ hgg (by omega) ?_, rest⟩
    intro cs fr e
    exact absurd (Obj.cells.inj e).2.1 (by decide)
theorem Boxed.nb {b B : Nat} {w w' : World} {t : TypeId} {v : Value} (h : Boxed w B t v) (hn : Nb b w w') (hb : B ≠ b) (ht : t ≠ 5) : Boxed w' B t v :=
  hn.2 B _ h hb (fun cs fr e => ht (Obj.cells.inj e).2.1)
theorem bld_own {β : Type} (B b n : Nat) (f : β → List UInt8) : OwnFrom n (fun s W => Bld B b (f s) W) := by
  intro s W W' row hs hg hr
  have key : ∀ p, Lib.BuilderAt 51 5 B b p (Lib.byteCells (f s)) W → Lib.BuilderAt 51 5 B b p (Lib.byteCells (f s)) W' := by
    rintro p ⟨h1, v, h2, h3, h4⟩
    have nc : ∀ k o, W.heap[k]? = some o → o.isCells = true → some k ≠ row := by
      rintro k o hk ho e
      obtain ⟨_, o', ho', hc⟩ := hr k e.symm
      rw [hk] at ho'; cases ho'
      rw [ho] at hc; cases hc
    refine ⟨h1, v, ?_, ?_, h4⟩
    · rw [hg.block b (Array.getElem?_eq_some_iff.1 h2).1 (nc b _ h2 rfl)]; exact h2
    · refine h3.kept hg ?_
      rcases h3.2 with ⟨rfl, _⟩ | ⟨g, cap, cur, rfl, _, hgg, _⟩
      · exact .inl rfl
      · exact .inr (nc g _ hgg rfl)
  exact Or.elim hs (fun x => .inl (key _ x)) (fun x => .inr (key _ x))

/-- The line of a station. -/
def statL (S : List Int) (H : List (List Int)) (i : Nat) : List UInt8 := lineB [115, 116, 97, 116, 105, 111, 110] (at_ S i :: rowAt H i)
theorem statL_len {S : List Int} {H : List (List Int)} (h : ∀ i, ∀ x ∈ at_ S i :: rowAt H i, x ≤ 1000000) (h7 : ∀ i, (rowAt H i).length ≤ 7) (l : List Nat) : (l.flatMap (statL S H)).length ≤ 9000000 * l.length := by
  induction l with
  | nil => simp
  | cons k l ih =>
    have := line_len (word := [115, 116, 97, 116, 105, 111, 110]) (by decide) (h k)
    rw [List.length_cons] at this
    have := h7 k
    rw [List.flatMap_cons, List.length_append, List.length_cons]
    unfold statL at *
    omega

set_option maxRecDepth 100000 in
set_option maxHeartbeats 2000000 in
theorem Print_bad (a1 a2 a3 : Option Addr) (n1 n2 n3 c1 c2 c3 : Nat) (vs : List Value) (S W : List Int) (H : List (List Int)) (w : World) (i1 : IsL w (.slice a1 n1 c1) S) (i2 : IsL w (.slice a2 n2 c2) W) (i3 : IsRB w.heap.size w (.slice a3 n3 c3) vs H) (h : tabE S W H = 13) :
    Calls Tryd.prog 10 #[.agg #[.slice a1 n1 c1, .slice a2 n2 c2, .slice a3 n3 c3]] w fun e w' => e = .returned (.tuple #[.string ⟨#[]⟩, .int .i64 13]) ∧ Below w.heap.size w w' := by
  have hb0 : ∀ o : Obj, Below w.heap.size w (w.alloc o) := fun o => (Below.refl _ _).alloc (Nat.le_refl _) _
  have hct := fun o => CheckTable_w _ _ _ vs S W H (w.alloc o) (i1.below (hb0 o)) (i2.below (hb0 o)) ((i3.below (hb0 o)).more (by simp))
  rw [h] at hct
  have HCT := hide hct; clear hct
  go_enter Tryd.func10, Tryd.ntmps10
  go_wp2_with (go_at_call 13; refine (HCT.out _).mono ?_; rintro e w1 ⟨rfl, hb1⟩; obtain ⟨hc1, hf1⟩ := bcell hb1; have hz1 := hb1.size; (try simp at hz1); have hs1_0 : w.heap.size < w1.heap.size := (by omega))
  go_ret2
  exact ⟨rfl, (by repeat (first | exact Below.refl _ _ | assumption | refine Below.alloc ?_ (by first | omega | (simp; omega) | simp) _ | refine Below.setCell ?_ (by first | omega | (simp; omega) | simp) _ | refine below_drewN ?_ _ | refine Below.drew ?_ | refine back ?_ (by assumption)))⟩

theorem prt_W {S W : List Int} {H : List (List Int)} (h : tabE S W H = 0) : ∀ x ∈ W, 0 ≤ x ∧ x ≤ 1000000 := by
  intro x hx
  obtain ⟨i, hi, rfl⟩ := List.getElem_of_mem hx
  have := pos_bd (tab_ok h).2.1 i
  rw [at_get hi] at this; omega
theorem prt_le {S W : List Int} {H : List (List Int)} (h : tabE S W H = 0) : ∀ i, ∀ x ∈ at_ S i :: rowAt H i, x ≤ 1000000 := by
  intro i x hx
  rcases List.mem_cons.1 hx with rfl | hx
  · have := pos_bd (tab_ok h).1 i; omega
  · obtain ⟨j, hj, rfl⟩ := List.getElem_of_mem hx
    have := (tab_ok h).2.2.2.2.2.2 i j
    rw [at_get hj] at this; omega
theorem prt_7 {S W : List Int} {H : List (List Int)} (h : tabE S W H = 0) : ∀ i, (rowAt H i).length ≤ 7 := by
  intro i
  by_cases hi : i < H.length
  · rw [(tab_ok h).2.2.2.2.2.1 i hi]; exact (tab_ok h).2.2.1
  · unfold rowAt; rw [List.getElem?_eq_none (by omega)]; simp
theorem prt_H {S W : List Int} {H : List (List Int)} (h : tabE S W H = 0) (k : Nat) (hk : k < H.length) : ∀ x ∈ at_ S k :: rowAt H k, 0 ≤ x ∧ x ≤ 1000000 := by
  intro x hx
  refine ⟨?_, prt_le h k x hx⟩
  rcases List.mem_cons.1 hx with rfl | hx
  · exact (pos_bd (tab_ok h).1 k).1
  · obtain ⟨j, hj, rfl⟩ := List.getElem_of_mem hx
    have ht := h
    unfold tabE at ht
    split at ht
    · rename_i h'
      unfold tabB at h'
      simp only [Bool.and_eq_true, decide_eq_true_eq] at h'
      have ha := h'.2
      rw [List.all_eq_true] at ha
      have hr := ha (H[k]) (List.getElem_mem hk)
      unfold rowB at hr
      simp only [Bool.and_eq_true, List.all_eq_true] at hr
      have he : rowAt H k = H[k] := by unfold rowAt; rw [List.getElem?_eq_getElem hk]; rfl
      have := hr.2 _ (by rw [← he]; exact List.getElem_mem hj)
      simp only [inB, decide_eq_true_eq] at this
      omega
    · simp at ht

set_option maxRecDepth 100000 in
set_option maxHeartbeats 8000000 in
theorem Print_in (n : Nat) (hn : 6 ≤ n) (a1 a2 a3 : Option Addr) (c1 c2 c3 : Nat) (vs : List Value) (S W : List Int) (H : List (List Int)) (w : World) (i1 : IsL w (.slice a1 S.length c1) S) (i2 : IsL w (.slice a2 W.length c2) W) (i3 : IsRB w.heap.size w (.slice a3 H.length c3) vs H) (h : tabE S W H = 0)
    (htab : ∀ V, Below w.heap.size w V → Lib.TabIs Tryd.prog V "internal/strconv.uint64pow10" .u64 Lib.pow10Tab) :
    CallsIn Fence.wide n Tryd.prog 10 #[.agg #[.slice a1 S.length c1, .slice a2 W.length c2, .slice a3 H.length c3]] w fun e w' => e = .returned (.tuple #[.string ⟨(printB S W H).toArray⟩, .int .i64 0]) ∧ Below w.heap.size w w' := by
  have hro : Fence.wide.round = none := rfl
  have h1 : 1 ≤ n := by omega
  have hb0 : ∀ o : Obj, Below w.heap.size w (w.alloc o) := fun o => (Below.refl _ _).alloc (Nat.le_refl _) _
  have hct := fun o => CheckTable_w _ _ _ vs S W H (w.alloc o) (i1.below (hb0 o)) (i2.below (hb0 o)) ((i3.below (hb0 o)).more (by simp))
  rw [h] at hct
  have HCT := hide (fun o => (callsIn_wide (n := n - 1)).2 (hct o))
  have HOK := hide (tab_ok h)
  have HWB := hide (prt_W h); have HLE := hide (prt_le h); have H7 := hide (prt_7 h); have HHB := hide (prt_H h)
  have hlw : W.length ≤ 7 := HOK.out.2.2.1
  have hls : S.length ≤ 9 := HOK.out.1.hi
  have hls2 : 2 ≤ S.length := HOK.out.1.lo
  have hlw2 : 2 ≤ W.length := HOK.out.2.1.lo
  have HHS := hide HOK.out.2.2.2.2.1
  have HT := hide htab
  have I1 := hide i1; have I2 := hide i2; have I3 := hide i3
  have HLW := hide hlw; have HLS := hide hls; have HLS2 := hide hls2; have HLW2 := hide hlw2
  clear hct hb0 h htab i1 i2 i3 hlw hls hls2 hlw2
  refine callsIn_of_wp_marks Tryd.func10 rfl trivial ?_ hro
  simp only [Tryd.ntmps10, List.size_toArray, List.length_cons, List.length_nil, Nat.reduceAdd, Nat.reduceSub, Array.replicate_succ, Array.replicate_zero, List.push_toArray, List.append_toArray, List.nil_append, List.cons_append]
  gi_wp2_with fail
  obtain ⟨w0, hw0⟩ : ∃ V, w.alloc (.cells #[.slice a1 S.length c1, .slice a2 W.length c2, .slice a3 H.length c3] 25) = V := ⟨_, rfl⟩
  have b0 : Below w.heap.size w w0 := by rw [← hw0]; exact (Below.refl _ _).alloc (Nat.le_refl _) _
  have K0 : Blk w0 w.heap.size 25 #[.slice a1 S.length c1, .slice a2 W.length c2, .slice a3 H.length c3] := by rw [← hw0]; exact Blk.new _ _ _
  have z0 : w0.heap.size = w.heap.size + 1 := by rw [← hw0]; simp
  have HC0 := HCT.out (.cells #[.slice a1 S.length c1, .slice a2 W.length c2, .slice a3 H.length c3] 25)
  rw [hw0] at HC0 ⊢
  have HC1 := hide HC0
  clear hw0 HC0 HCT
  refine ⟨trivial, HC1.out.mono ?_⟩
  rintro e w1 ⟨rfl, hb1⟩
  have K1 := K0.below hb1
  have z1 := hb1.size
  have B1 := back b0 hb1
  have d0 : w1.cell? ⟨w.heap.size, 0, none⟩ = some (.slice a1 S.length c1) := K1.cell 0
  have d1 : w1.cell? ⟨w.heap.size, 1, none⟩ = some (.slice a2 W.length c2) := K1.cell 1
  have d2 : w1.cell? ⟨w.heap.size, 2, none⟩ = some (.slice a3 H.length c3) := K1.cell 2
  have HK1 := hide K1; have HB1 := hide B1
  clear K0 K1 hb1 B1 b0 HC1
  have hs1 : w.heap.size < w1.heap.size := by omega
  have q1 : (w1.alloc (.cells #[.pointer none, .slice none 0 0] 51)).cell? ⟨w.heap.size, 1, none⟩ = some (.slice a2 W.length c2) := (HK1.out.below ((Below.refl _ _).alloc (Nat.le_refl _) _)).cell 1
  gi_wp2_with fail
  obtain ⟨w2, hw2⟩ : ∃ V, w1.alloc (.cells #[.pointer none, .slice none 0 0] 51) = V := ⟨_, rfl⟩
  obtain ⟨b, hbe⟩ : ∃ b, w1.heap.size = b := ⟨_, rfl⟩
  have z2 : w2.heap.size = b + 1 := by rw [← hw2, ← hbe]; simp
  have hbB : w.heap.size < b := by omega
  have hbl12 : Below w1.heap.size w1 w2 := by rw [← hw2]; exact (Below.refl _ _).alloc (Nat.le_refl _) _
  have hbd0 : Bld w.heap.size b [] w2 := by
    refine .inl ⟨by omega, .slice none 0 0, ?_, World.ownsRow_nil _ _ _ _, by simp [Value.ownBlock]⟩
    rw [← hw2, ← hbe]
    exact World.alloc_heap_new w1 _
  have K2 := HK1.out.below hbl12
  have B2 := back HB1.out hbl12
  rw [hw2, hbe]
  clear hw2 hbl12 HK1 HB1 d0 d1 d2 q1
  have hpl := printLine_w w.heap.size b [] [119, 97, 116, 101, 114, 115] a2 W.length c2 W w2 (by omega) hbd0 (fun V hb _ => I2.out.below ((B2.mono (Nat.le_refl _)).trans hb)) HWB.out (by have := HLW.out; omega) (by decide) (by simp) (fun V hb => HT.out V (B2.trans hb))
  have HPL1 := hide ((callsIn_wide (n := n - 1)).2 hpl)
  have HK2 := hide K2; have HB2 := hide B2; have HBE := hide hbe
  clear hpl K2 B2 hbd0 hbe
  refine ⟨trivial, HPL1.out.mono ?_⟩
  rintro e w3 ⟨rfl, hb3, hl3, hn3⟩
  have z3 := hn3.1
  have K3 : Blk w3 w.heap.size 25 #[.slice a1 S.length c1, .slice a2 W.length c2, .slice a3 H.length c3] := hn3.2 _ _ HK2.out (by omega) (by intro cs fr e; exact absurd (Obj.cells.inj e).2.1 (by decide))
  have q0 : w3.cell? ⟨w.heap.size, 0, none⟩ = some (.slice a1 S.length c1) := K3.cell 0
  have q2 : w3.cell? ⟨w.heap.size, 2, none⟩ = some (.slice a3 H.length c3) := K3.cell 2
  have HBD := hide hb3; have HB3 := hide (HB2.out.trans hl3)
  clear hb3 hl3 hn3 HPL1 HK2 HB2 K3
  gi_wp2_with fail
  all_goals try exact trivial
  refine ⟨trivial, (pairsM_call Fence.wide _ trivial hro _ _ _ _ _ _ _ _ rfl rfl _).mono ?_⟩
  rintro e w' ⟨rfl, rfl⟩
  gi_wp2
  obtain ⟨p, hp⟩ : ∃ p, w3.heap.size = p := ⟨_, rfl⟩
  obtain ⟨W0, hW0⟩ : ∃ W0, (w3.alloc (.cells #[.slice a1 S.length c1] 22)).alloc (.cells #[.slice a3 H.length c3] 23) = W0 := ⟨_, rfl⟩
  have hsz : W0.heap.size = p + 2 := by rw [← hW0, ← hp]; simp
  have hbW : Below w3.heap.size w3 W0 := by rw [← hW0]; exact ((Below.refl _ _).alloc (Nat.le_refl _) _).alloc (by simp) _
  have bS : Boxed W0 p 22 (.slice a1 S.length c1) := by rw [← hW0, ← hp]; exact (Boxed.new w3 _ _).alloc _
  have bQ : Boxed W0 (p + 1) 23 (.slice a3 H.length c3) := by
    rw [← hW0, ← hp]
    have := Boxed.new (w3.alloc (.cells #[.slice a1 S.length c1] 22)) 23 (.slice a3 H.length c3)
    rwa [World.size_alloc] at this
  have B0 : Below w.heap.size w W0 := back HB3.out hbW
  have hbd0 := HBD.out.below hbW
  rw [List.nil_append] at hbd0
  have hbp : b < p := by omega
  rw [hW0, hp]
  clear hW0 hbW q0 q2
  obtain ⟨Z, hZ⟩ : ∃ Z : Nat → Prop, Z = fun k => k < w.heap.size ∨ k = p ∨ k = p + 1 := ⟨_, rfl⟩
  have hZlt : ∀ k, Z k → k < W0.heap.size := by intro k hk; rw [hZ] at hk; rcases hk with hk | hk | hk <;> omega
  have hZw : ∀ k, k < w.heap.size → Z k := by intro k hk; rw [hZ]; exact .inl hk
  have hZ1 : Z p := by rw [hZ]; exact .inr (.inl rfl)
  have hZ2 : Z (p + 1) := by rw [hZ]; exact .inr (.inr rfl)
  have i1Z : IsLZ Z W0 (.slice a1 S.length c1) S := (IsLZ.below (IsLB.toZ (B0 := 0) I1.out (Fresh.zero _)) B0 (fun k hk => hk.1)).more (fun k hk => hZw k hk.1)
  have i3Z : IsRZ Z W0 (.slice a3 H.length c3) vs H := (IsRZ.below (I3.out.toZ (Fresh.zero _) (fun _ _ => Fresh.zero _)) B0 (fun k hk => hk.1)).more (fun k hk => hZw k hk.1)
  have J1 := hide i1Z; have J3 := hide i3Z; have HZ := hide hZ
  obtain ⟨l0, hl0⟩ : ∃ l0, lineB [119, 97, 116, 101, 114, 115] W = l0 := ⟨_, rfl⟩
  rw [hl0] at hbd0
  have hl0n : l0 ≠ [] := by rw [← hl0]; unfold lineB; simp
  have hl0l : l0.length ≤ 8000000 := by
    have := line_len (word := [119, 97, 116, 101, 114, 115]) (by decide) (l := W) (fun x hx => (HWB.out x hx).2)
    rw [hl0] at this
    have := HLW.out
    omega
  have HL0 := hide hl0; have HL0N := hide hl0n; have HL0L := hide hl0l
  clear i1Z i3Z hZ hl0 hl0n hl0l HBD HB3
  refine wpIn_rangeFunc_ownH hro h1 (gf := 45) (lb := #[.pointer (some ⟨p, 0, none⟩), .pointer (some ⟨p + 1, 0, none⟩)]) rfl trivial (enters_of Tryd.func45 (by kernel_rfl) rfl)
    (pairsMZ_stops Fence.wide (n - 1) trivial hro (by omega) p (p + 1) Z _ _ vs S H HHS.out.symm W0 (by omega) (by omega) hZlt hZ1 hZ2 bS.cell bQ.cell J1.out J3.out) KpZ.trans (KpZ.put hZlt) (Below.refl _ _) (fun _ => rfl)
    (fun (pre : List (Fin S.length)) W' => (Bld w.heap.size b (l0 ++ (pre.map Fin.val).flatMap (statL S H)) W' ∧ KpS Z W0 W') ∧ Below w.heap.size w W')
    (fun _ _ _ => False)
    (OwnFrom.and (OwnFrom.and (bld_own _ _ _ _) (ownFrom_kpS (fun k hk => ⟨hZlt k hk, hZlt k hk⟩))) (ownFrom_below (Nat.le_refl _) (by omega)))
    (fun _ _ _ _ _ hs _ _ => hs)
    ⟨⟨by simpa using hbd0, Nat.le_refl _, KpZ.refl _ _⟩, B0⟩
    (fun (x : Fin S.length) a' _ => a' = { tmps := #[.agg #[.slice a1 S.length c1, .slice a2 W.length c2, .slice a3 H.length c3], .pointer (some ⟨w.heap.size, 0, none⟩), .string ⟨#[]⟩, .int .i64 0, .int .i64 0, .pointer (some ⟨b, 0, none⟩), .int .i64 (at_ S x.val), vAt vs x.val, .agg #[.slice a1 S.length c1, .slice a2 W.length c2, .slice a3 H.length c3], .int .i64 0, .int .i64 0, .bool false, undef, .pointer (some ⟨w.heap.size, 1, none⟩), .slice a2 W.length c2, .tuple #[], .pointer (some ⟨w.heap.size, 0, none⟩), .slice a1 S.length c1, .pointer (some ⟨w.heap.size, 2, none⟩), .slice a3 H.length c3, .func (.func 45) #[] #[.pointer (some ⟨p, 0, none⟩), .pointer (some ⟨p + 1, 0, none⟩)], .int .i64 (at_ S x.val), vAt vs x.val, undef, undef, undef, undef, undef, undef, undef], defers := [] })
    (fun _ _ _ _ _ _ hs _ _ => hs)
    ?assign ?body ?done ?stop
  case assign =>
    rintro l pre x W' K hi hK
    gi_wp2
    exact hK _ _ (KeepsFrom.refl _ _) (KpZ.refl _ _) hi rfl
  case body =>
    rintro l pre x a' W' hl ⟨r, hr⟩ ⟨⟨hbd, hks⟩, hbw⟩ rfl hlt
    have hxH : x.val < H.length := by have := HHS.out; have := x.isLt; omega
    have hrl : (rowAt H x.val).length = W.length := HOK.out.2.2.2.2.2.1 x.val hxH
    have hrow := (vAt_rowZ J3.out x.val).keepZ hks.2
    have hwz := hks.1
    obtain ⟨ra, rc, hra, _⟩ := id hrow
    rw [hra] at hrow
    obtain ⟨rb, ro, rfl, hrb⟩ : ∃ b o, ra = some ⟨b, o, none⟩ ∧ Z b := by
      obtain ⟨_, _, hv, _, _, _, h4⟩ := hrow
      obtain ⟨rfl, _, _⟩ := Value.slice.inj hv
      obtain ⟨b, o, e, hz, _⟩ := h4 (by intro h; rw [h] at hrl; simp at hrl; have := HLW2.out; omega)
      exact ⟨b, o, e, hz⟩
    have hrl2 : IsL W' (.slice (some ⟨rb, ro, none⟩) (rowAt H x.val).length rc) (rowAt H x.val) := by
      obtain ⟨a, cap, hv, k1, k2, k3, k4⟩ := hrow
      refine ⟨a, cap, hv, k1, k2, k3, fun hne => ?_⟩
      obtain ⟨b', off, ha, hz, hc⟩ := k4 hne
      exact ⟨b', off, ha, by have := hZlt b' hz; omega, hc⟩
    have hpre : (l0 ++ (pre.map Fin.val).flatMap (statL S H)).length ≤ 90000000 := by
      have h1 := statL_len HLE.out H7.out (pre.map Fin.val)
      rw [List.length_map] at h1
      have h2 := HL0L.out
      have h3 := HLS.out
      rw [List.length_append]; omega
    obtain ⟨t, ht⟩ : ∃ t, l0 ++ (pre.map Fin.val).flatMap (statL S H) = t := ⟨_, rfl⟩
    rw [ht] at hbd hpre
    have hnb := HHB.out x.val hxH
    have HT0 := hide ht
    have hst : l0 ++ ((pre ++ [x]).map Fin.val).flatMap (statL S H) = t ++ lineB [115, 116, 97, 116, 105, 111, 110] ([at_ S x.val] ++ rowAt H x.val) := by
      rw [List.map_append, List.flatMap_append, ← List.append_assoc, HT0.out, List.map_singleton, List.flatMap_singleton]; rfl
    clear ht HT0
    rw [hra]
    obtain ⟨sx, hsx⟩ : ∃ sx, at_ S x.val = sx := ⟨_, rfl⟩
    obtain ⟨row, hrow'⟩ : ∃ row, rowAt H x.val = row := ⟨_, rfl⟩
    rw [hsx, hrow'] at hnb hst
    rw [hsx]
    rw [hrow'] at hrl hrl2 ⊢
    have hrn : row.length = W.length := hrl
    rw [hrl] at hrl2 ⊢
    have hfb : ∀ y ∈ [sx] ++ row, FB y := fun y hy => by have := hnb y hy; exact ⟨by omega, by omega⟩
    have HST := hide hst; have HRN := hide hrn; have HRI := hide hrl2; have HNB := hide hnb; have HFB := hide hfb
    have HBD := hide hbd; have HKS := hide hks; have HBW := hide hbw
    clear hst hrl hrl2 hnb hfb hbd hks hbw hrow hsx hrow' hrn
    have h1' : 1 ≤ n - 1 - 1 := by omega
    obtain ⟨V0, hV0⟩ : ∃ V0, (W'.alloc (.cells #[.int .i64 sx] 3)).alloc (.cells #[.slice (some ⟨W'.heap.size, 0, none⟩) 1 1, .slice (some ⟨rb, ro, none⟩) W.length rc] 22) = V0 := ⟨_, rfl⟩
    have vsz : V0.heap.size = W'.heap.size + 2 := by rw [← hV0]; simp
    have hbV : Below W'.heap.size W' V0 := by rw [← hV0]; exact ((Below.refl _ _).alloc (Nat.le_refl _) _).alloc (by simp) _
    have hk2 : Blk V0 (W'.heap.size + 1) 22 #[.slice (some ⟨W'.heap.size, 0, none⟩) 1 1, .slice (some ⟨rb, ro, none⟩) W.length rc] := by
      rw [← hV0]
      have := Blk.new (W'.alloc (.cells #[.int .i64 sx] 3)) 22 #[.slice (some ⟨W'.heap.size, 0, none⟩) 1 1, .slice (some ⟨rb, ro, none⟩) W.length rc]
      rwa [World.size_alloc] at this
    have ho1 : Own W'.heap.size V0 (.slice (some ⟨W'.heap.size, 0, none⟩) 1 1) [sx] := by rw [← hV0]; exact (Own.one W' sx (Nat.le_refl _)).alloc _
    have hcc := concat_w (W'.heap.size + 1) W'.heap.size 0 1 1 rb ro W.length rc [sx] row V0 (hk2.cell 0) (hk2.cell 1) (ho1.isL (fun y hy => HFB.out y (by simp at hy; simp [hy]))) (HRI.out.below hbV) (by simp) (by simp) (by have := HRN.out; have := HLW2.out; omega) (by have := HRN.out; have := HLW.out; omega)
    have HCC := hide (CallsIn.inRound l ((callsIn_wide (n := n - 1 - 1 - 1)).2 hcc))
    have HBV := hide hbV
    have HV0 := hide hV0
    clear hcc hk2 ho1 hbV hV0
    gi_wp2_with fail
    all_goals try exact trivial
    rw [HV0.out]
    refine ⟨trivial, HCC.out.mono ?_⟩
    rintro e V1 ⟨v, rfl, hown, hbv⟩
    have hb1 : Below W'.heap.size W' V1 := HBV.out.trans (hbv.mono HBV.out.size)
    have hz1' := hb1.size
    have hBW1 : Below w.heap.size w V1 := back HBW.out hb1
    have hks1 := HKS.out.1
    have hbd1 := HBD.out.below hb1
    obtain ⟨g, gc, rfl, _, _, _⟩ := id (hown.form (n := W.length + 1) (by rw [List.length_append, HRN.out]; simp; omega) (by omega))
    have hpl := printLine_w w.heap.size b t [115, 116, 97, 116, 105, 111, 110] (some ⟨g, 0, none⟩) (W.length + 1) gc ([sx] ++ row) V1 (by omega) hbd1 (fun V _ hnb => (hown.nb hnb (by omega)).isL HFB.out) HNB.out (by rw [List.length_append, HRN.out]; have := HLW.out; simp; omega) (by decide) (by omega) (fun V hb => HT.out V (hBW1.trans hb))
    have HPL := hide (CallsIn.inRound l ((callsIn_wide (n := n - 1 - 1 - 1)).2 hpl))
    have HB1' := hide hb1; have HBW1 := hide hBW1
    clear hpl hown hbd1 hb1 hBW1 hbv HCC HV0
    gi_wp2_with fail
    all_goals try exact trivial
    refine ⟨trivial, HPL.out.mono ?_⟩
    rintro e V2 ⟨rfl, hbd2, hl2, hn2⟩
    gi_wp2_with fail
    all_goals try exact trivial
    have hnb2 : Nb b W' V2 := (Nb.below HB1'.out).trans hn2
    have hlow : Below w.heap.size W' V2 := (HB1'.out.mono (by omega)).trans hl2
    have hkz : KpZ Z W' V2 := by
      intro k hk
      rw [HZ.out] at hk
      rcases hk with hk | rfl | rfl
      · exact hlow.block k hk
      · have h0 := (HKS.out.2 _ hZ1).trans bS
        exact (hnb2.2 _ _ h0 (by omega) (fun cs fr e => absurd (Obj.cells.inj e).2.1 (by decide))).trans h0.symm
      · have h0 := (HKS.out.2 _ hZ2).trans bQ
        exact (hnb2.2 _ _ h0 (by omega) (fun cs fr e => absurd (Obj.cells.inj e).2.1 (by decide))).trans h0.symm
    refine ⟨hnb2.keeps HBD.out _, hkz, ⟨⟨?_, Nat.le_trans HKS.out.1 hnb2.1, HKS.out.2.trans hkz⟩, HBW.out.trans hlow⟩⟩
    rw [HST.out]
    exact hbd2
  case done =>
    rintro D zs W' hD hzs ⟨⟨hbd, hks⟩, hbw⟩ hK
    have hz := hks.1
    rw [hzs] at hbd
    have hbs := bs_w w.heap.size b _ W' hbd (by intro h; exact HL0N.out (List.append_eq_nil_iff.1 h).1)
    have HBS := hide ((callsIn_wide (n := n - 1)).2 hbs)
    have HBW := hide hbw
    clear hbs hbd hks hbw
    gi_wp2_with fail
    all_goals try exact trivial
    refine ⟨trivial, HBS.out.mono ?_⟩
    rintro e W3 ⟨rfl, hl3, hn3⟩
    have hK3 := hn3.2 D _ hK (by omega) (by intro cs fr e; cases e)
    have hB3' : Below w.heap.size w W3 := HBW.out.trans hl3
    gi_wp2_with fail
    all_goals try exact trivial
    have hpb : l0 ++ List.flatMap (statL S H) (List.range S.length) = printB S W H := by rw [← HL0.out]; rfl
    rw [hpb]
    refine ⟨by simp, .inl ⟨_, _, rfl, run_takeDeferred hK3, ?_⟩⟩
    exact ⟨_, results_tmp2 rfl _ _ _, rfl, hB3'.trans (belowK_b (w := w) (Nat.le_refl _) W3 D _ _ (by omega) hK3 rfl rfl)⟩
  case stop =>
    rintro D c pre W' _ _ hf _
    exact hf.elim

/-- Print. -/
theorem Print_w (a1 a2 a3 : Option Addr) (n1 n2 n3 c1 c2 c3 : Nat) (vs : List Value) (S W : List Int) (H : List (List Int)) (w : World) (i1 : IsL w (.slice a1 n1 c1) S) (i2 : IsL w (.slice a2 n2 c2) W) (i3 : IsRB w.heap.size w (.slice a3 n3 c3) vs H)
    (htab : ∀ V, Below w.heap.size w V → Lib.TabIs Tryd.prog V "internal/strconv.uint64pow10" .u64 Lib.pow10Tab) :
    Calls Tryd.prog 10 #[.agg #[.slice a1 n1 c1, .slice a2 n2 c2, .slice a3 n3 c3]] w fun e w' => e = .returned (.tuple #[.string ⟨(printE S W H).toArray⟩, .int .i64 (tabE S W H)]) ∧ Below w.heap.size w w' := by
  obtain rfl : n1 = S.length := by obtain ⟨_, _, hv, _⟩ := id i1; exact (Value.slice.inj hv).2.1
  obtain rfl : n2 = W.length := by obtain ⟨_, _, hv, _⟩ := id i2; exact (Value.slice.inj hv).2.1
  obtain rfl : n3 = H.length := by obtain ⟨_, _, _, _, hv, _⟩ := id i3; exact (Value.slice.inj hv).2.1
  by_cases h : tabE S W H = 0
  · have := (callsIn_wide (n := 6)).1 (Print_in 6 (Nat.le_refl _) a1 a2 a3 c1 c2 c3 vs S W H w i1 i2 i3 h htab)
    unfold printE
    rw [if_pos h, h]
    exact this
  · have h13 : tabE S W H = 13 := by unfold tabE at h ⊢; split at h <;> simp_all
    unfold printE
    rw [if_neg h, h13]
    exact Print_bad a1 a2 a3 _ _ _ c1 c2 c3 vs S W H w i1 i2 i3 h13
end Go.Proofs.YtfbgnnelnpcbiaaDoor
