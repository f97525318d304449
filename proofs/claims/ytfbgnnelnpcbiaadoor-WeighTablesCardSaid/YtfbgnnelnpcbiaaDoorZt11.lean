import Derived.Test.YtfbgnnelnpcbiaaDoorZt10
import Derived.Lib.ItoaNum
import Derived.Laws.IdiomStrings
set_option linter.unusedVariables false
set_option linter.unusedSimpArgs false
namespace Go.Proofs.YtfbgnnelnpcbiaaDoor
open Go.RowKit Go.Shelf

set_option maxHeartbeats 1000000 in
theorem rLitres_w (a1 a2 a3 : Option Addr) (n1 n2 n3 c1 c2 c3 : Nat) (vs : List Value) (S W : List Int) (H : List (List Int)) (w : World) (i1 : IsL w (.slice a1 n1 c1) S) (i2 : IsL w (.slice a2 n2 c2) W) (i3 : IsRB w.heap.size w (.slice a3 n3 c3) vs H) :
    Calls Tryd.prog 9 #[.agg #[.slice a1 n1 c1, .slice a2 n2 c2, .slice a3 n3 c3]] w fun e w' => e = .returned (.tuple #[.int .i64 (litE S W H), .int .i64 (tabE S W H)]) ∧ Below w.heap.size w w' := by
  have hb0 : ∀ o : Obj, Below w.heap.size w (w.alloc o) := fun o => (Below.refl _ _).alloc (Nat.le_refl _) _
  have hv := fun o => rVolume_w a1 a2 a3 n1 n2 n3 c1 c2 c3 vs S W H (w.alloc o) (i1.below (hb0 o)) (i2.below (hb0 o)) ((i3.below (hb0 o)).more (by simp))
  have hl := vol_lim S W H
  obtain ⟨hl1, hl2⟩ := hl
  have HE : Hid (litE S W H = if tabE S W H = 0 then flo (volE S W H) 1296000000 else 0) := rfl
  rcases tabE_or S W H with h | h
  · rw [h] at hv ⊢
    have HE2 : Hid (litE S W H = flo (volE S W H) 1296000000) := by show _ = _; rw [HE.out, if_pos h]
    have HV := hide hv; clear hv h HE
    go_enter Tryd.func9, Tryd.ntmps9
    go_wp2_with (first | (go_at_call 7; refine (HV.out _).mono ?_; rintro e w1 ⟨rfl, hb1⟩; obtain ⟨hc1, hf1⟩ := bcell hb1; have hz1 := hb1.size; (try simp at hz1); have hs1_0 : w.heap.size < w1.heap.size := (by omega)) | (go_at_call 23; refine (down_w _ _ _ (by omega) (by omega) (by omega) (by omega)).mono ?_; rintro e w' ⟨rfl, rfl⟩))
    go_ret2
    exact ⟨ret_ii HE2.out.symm rfl, (by repeat (first | exact Below.refl _ _ | assumption | refine Below.alloc ?_ (by first | omega | (simp; omega) | simp) _ | refine Below.setCell ?_ (by first | omega | (simp; omega) | simp) _ | refine below_drewN ?_ _ | refine Below.drew ?_ | refine back ?_ (by assumption)))⟩
  · rw [h] at hv ⊢
    have HE2 : Hid (litE S W H = 0) := by show _ = _; rw [HE.out, if_neg (by rw [h]; decide)]
    have HV := hide hv; clear hv h HE
    go_enter Tryd.func9, Tryd.ntmps9
    go_wp2_with (go_at_call 7; refine (HV.out _).mono ?_; rintro e w1 ⟨rfl, hb1⟩; obtain ⟨hc1, hf1⟩ := bcell hb1; have hz1 := hb1.size; (try simp at hz1); have hs1_0 : w.heap.size < w1.heap.size := (by omega))
    go_ret2
    exact ⟨ret_ii HE2.out.symm rfl, (by repeat (first | exact Below.refl _ _ | assumption | refine Below.alloc ?_ (by first | omega | (simp; omega) | simp) _ | refine Below.setCell ?_ (by first | omega | (simp; omega) | simp) _ | refine below_drewN ?_ _ | refine Below.drew ?_ | refine back ?_ (by assumption)))⟩
end Go.Proofs.YtfbgnnelnpcbiaaDoor

namespace Go.Proofs.YtfbgnnelnpcbiaaDoor
open Go.RowKit Go.Shelf

theorem dec_step {m : Nat} (h : ¬ m < 10) : Lib.decDigits m = Lib.decDigits (m / 10) ++ [UInt8.ofNat (48 + m % 10)] := by rw [Lib.decDigits, dif_neg h]
theorem dec_last {m : Nat} (h : m < 10) : Lib.decDigits m = [UInt8.ofNat (48 + m)] := by rw [Lib.decDigits, dif_pos h]

theorem dec_len (u : Nat) : (Lib.decDigits u).length ≤ u + 1 := by
  induction u using Nat.strongRecOn with
  | _ u ih =>
    by_cases h : u < 10
    · rw [dec_last h]; simp
    · rw [dec_step h, List.length_append]
      have := ih (u / 10) (by omega)
      simp; omega

theorem conv_one (x : Nat) (hx : x < 10) (w : World) :
    (convert 49 9 (.slice (some ⟨w.heap.size, 0, none⟩) 1 1)).run Tryd.prog (w.alloc (.cells #[.int .u8 (48 + (x : Int))] 5)) = .ok (.string ⟨[UInt8.ofNat (48 + x)].toArray⟩) (w.alloc (.cells #[.int .u8 (48 + (x : Int))] 5)) := by
  refine run_convert_bytes_back _ 49 9 5 ⟨w.heap.size, 0, none⟩ 1 [UInt8.ofNat (48 + x)] Tryd.underlying49 Tryd.underlying5 Tryd.underlying9 ?_
  intro j hj
  have hj0 : j = 0 := by simp at hj; omega
  subst hj0
  have e : ((UInt8.ofNat (48 + x)).toNat : Int) = 48 + (x : Int) := by
    rw [UInt8.toNat_ofNat']
    omega
  simp only [List.getElem_cons_zero, e]
  simp [Addr.add]

theorem str_app (x y : List UInt8) : (⟨x.toArray⟩ : ByteArray) ++ ⟨y.toArray⟩ = ⟨(x ++ y).toArray⟩ := by
  apply ByteArray.ext
  rw [ByteArray.data_append]
  simp
theorem dig_app (m : Nat) (l : List UInt8) : (⟨#[48 + UInt8.ofNat m]⟩ : ByteArray) ++ ⟨l.toArray⟩ = ⟨([UInt8.ofNat (48 + m)] ++ l).toArray⟩ := by
  rw [← str_app, UInt8.ofNat_add]; rfl

set_option maxRecDepth 100000 in
set_option maxHeartbeats 2000000 in
theorem digits_w (n : Nat) (hn : n ≤ 1000000000000000000) (w : World) :
    Calls Tryd.prog 58 #[.int .u64 (n : Int)] w fun e w' => e = .returned (.string ⟨(Lib.decDigits n).toArray⟩) ∧ Below w.heap.size w w' := by
  go_enter Tryd.func58, Tryd.ntmps58
  go_wp2_with fail
  go_loopw [0, 3] (fun a s wr => ∃ (m : Nat) (l : List UInt8), a = .int .u64 (m : Int) ∧ s = .string ⟨l.toArray⟩ ∧ m ≤ n ∧ Hid (Lib.decDigits n = Lib.decDigits m ++ l) ∧ Hid (Below w.heap.size w wr)) (fun a _ _ => (intOf a).toNat)
  case atStart => exact ⟨n, [], rfl, rfl, Nat.le_refl _, hide (by simp), hide (Below.refl _ _)⟩
  case round =>
    obtain ⟨m, l, rfl, rfl, hm, hd, hbel⟩ := hrel
    have hsz := hbel.out.size
    have hll : l.length ≤ 1000000000000000001 := by
      have e := congrArg List.length hd.out
      rw [List.length_append] at e
      have := dec_len n
      omega
    have hlc : ¬ 9223372036854775807 < 1 + l.length := by omega
    clear hll
    by_cases hlt : m < 10
    · have hl3 : ¬ (9 : Int) < m := by omega
      have hD := hide (hd.out.trans (by rw [dec_last hlt]))
      have hcv := conv_one m hlt wr
      go_wp2_with fail
      go_ret
      refine ⟨?_, (by repeat (first | exact Below.refl _ _ | assumption | refine Below.alloc ?_ (by first | omega | (simp; omega) | simp) _ | refine Below.setCell ?_ (by first | omega | (simp; omega) | simp) _ | refine below_drewN ?_ _ | refine Below.drew ?_ | refine back ?_ (by assumption)))⟩
      rw [hD.out, ← dig_app]
      rfl
    · have hl3 : (9 : Int) < m := by omega
      have hD := hide (hd.out.trans (by rw [dec_step hlt]))
      have hcv := conv_one (m % 10) (by omega) wr
      rw [show ((m % 10 : Nat) : Int) = (m : Int) % 10 by omega] at hcv
      go_wp2_with fail
      go_roundw
      case rel => exact ⟨m / 10, [UInt8.ofNat (48 + m % 10)] ++ l, by go_num, by rw [← dig_app], by omega, hide (by rw [hD.out, List.append_assoc]), hide (hbel.out.alloc hsz _)⟩
      case measure => simp [intOf]; omega
end Go.Proofs.YtfbgnnelnpcbiaaDoor

namespace Go.Proofs.YtfbgnnelnpcbiaaDoor
open Go.RowKit Go.Shelf

set_option maxRecDepth 100000 in
set_option maxHeartbeats 2000000 in
theorem Text_w (m : Nat) (h1 : m ≤ 1000000) (w : World) :
    Calls Tryd.prog 47 #[.int .i64 (m : Int)] w fun e w' => e = .returned (.string ⟨(Lib.decDigits m).toArray⟩) ∧ Below w.heap.size w w' := by
  have hs := rsize_w (m : Int) w (by omega) (by omega)
  rw [Int.natAbs_natCast] at hs
  have hd := digits_w m (by omega) w
  have hlt : ¬ (m : Int) < 0 := by omega
  have HS := hide hs; have HD := hide hd
  clear hs hd
  go_enter Tryd.func47, Tryd.ntmps47
  go_wp2_with fail
  refine HS.out.mono ?_
  rintro e w' ⟨rfl, rfl⟩
  go_wp2_with fail
  refine HD.out.mono ?_
  rintro e w1 ⟨rfl, hb⟩
  go_wp2_with fail
  go_ret
  exact ⟨rfl, hb⟩

/-- A number behind a blank. -/
def numB (n : Int) : List UInt8 := 32 :: Lib.decDigits n.toNat
/-- A line of a text: a word and numbers. -/
def lineB (word : List UInt8) (l : List Int) : List UInt8 := word ++ l.flatMap numB ++ [10]

theorem numB_len {n : Int} (h1 : n ≤ 1000000) : (numB n).length ≤ 1000002 := by
  unfold numB; have := dec_len n.toNat; simp; omega
theorem nums_len {l : List Int} (h : ∀ x ∈ l, x ≤ 1000000) : (l.flatMap numB).length ≤ 1000002 * l.length := by
  induction l with
  | nil => simp
  | cons x r ih =>
    have h1 := numB_len (h x List.mem_cons_self)
    have h2 := ih fun y hy => h y (List.mem_cons_of_mem _ hy)
    rw [List.flatMap_cons, List.length_append, List.length_cons]; omega

set_option maxRecDepth 100000 in
set_option maxHeartbeats 4000000 in
theorem row_w (word : List UInt8) (hw : word.length ≤ 100) (a : Option Addr) (n cap : Nat) (xs : List Int) (w : World) (h : IsL w (.slice a n cap) xs) (hx : ∀ x ∈ xs, 0 ≤ x ∧ x ≤ 1000000) (hl : xs.length ≤ 1000) :
    Calls Tryd.prog 28 #[.string ⟨word.toArray⟩, .slice a n cap] w fun e w' => e = .returned (.string ⟨(lineB word xs).toArray⟩) ∧ Below w.heap.size w w' := by
  have hn : n = xs.length := by obtain ⟨_, _, hv, _⟩ := h; cases hv; rfl
  subst hn
  have HH := hide h
  have HX := hide hx
  have hnl := nums_len (l := xs) (fun x hx' => (hx x hx').2)
  clear h hx
  go_enter Tryd.func28, Tryd.ntmps28
  go_wp2_with fail
  go_loopw [5, 6] (fun s i wr => ∃ k : Nat, s = .string ⟨(word ++ (xs.take k).flatMap numB).toArray⟩ ∧ i = .int .i64 k ∧ k ≤ xs.length ∧ Hid (Below w.heap.size w wr)) (fun _ i _ => xs.length - (intOf i).toNat)
  case atStart => exact ⟨0, by simp, rfl, Nat.zero_le _, hide (Below.refl _ _)⟩
  case round =>
    obtain ⟨k, rfl, rfl, hk, hbel⟩ := hrel
    have hsz := hbel.out.size
    have htl := nums_len (l := xs.take k) (fun x hx' => (HX.out x (List.mem_of_mem_take hx')).2)
    have htk : (xs.take k).length = k := by rw [List.length_take]; omega
    rw [htk] at htl
    have hsl : (word ++ (xs.take k).flatMap numB).length ≤ 100 + 1000002 * k := by rw [List.length_append]; omega
    obtain ⟨s, hs⟩ : ∃ s, word ++ (xs.take k).flatMap numB = s := ⟨_, rfl⟩
    rw [hs] at hsl ⊢
    have HS := hide hs
    clear hs htl htk
    by_cases hlt : k < xs.length
    · have hl3 : (k : Int) < xs.length := by omega
      obtain ⟨b, off, rfl⟩ : ∃ b o, a = some ⟨b, o, none⟩ := by
        obtain ⟨_, _, hv, _, _, _, h4⟩ := HH.out
        obtain ⟨rfl, _, _⟩ := Value.slice.inj hv
        obtain ⟨b, o, e, _⟩ := h4 (by intro h; rw [h] at hlt; simp at hlt)
        exact ⟨b, o, e⟩
      have cx := rowL_at (HH.out.below hbel.out) hlt
      have hb := HX.out (at_ xs k) (by rw [at_get hlt]; exact List.getElem_mem hlt)
      have hst : (xs.take (k + 1)).flatMap numB = (xs.take k).flatMap numB ++ numB (at_ xs k) := by rw [← take_snoc _ _ hlt, List.flatMap_append]; simp
      obtain ⟨x, hxx⟩ : ∃ x, at_ xs k = x := ⟨_, rfl⟩
      rw [hxx] at cx hb hst
      have HST := hide hst
      obtain ⟨m, rfl⟩ : ∃ m : Nat, x = (m : Int) := ⟨x.toNat, by omega⟩
      have hm6 : m ≤ 1000000 := by omega
      have hT := Text_w m hm6 wr
      have hdl := dec_len m
      obtain ⟨d, hd⟩ : ∃ d, Lib.decDigits m = d := ⟨_, rfl⟩
      rw [hd] at hT hdl
      have HT := hide hT; have HD := hide hd
      have hc1 : ¬ 9223372036854775807 < 1 + d.length := by omega
      have hc2 : ¬ 9223372036854775807 < s.length + (1 + d.length) := by omega
      clear hT hd hst hxx hb
      go_wp2_with fail
      refine HT.out.mono ?_
      rintro e w1 ⟨rfl, hb1⟩
      go_wp2_with fail
      go_roundw
      case rel =>
        refine ⟨k + 1, ?_, by go_num, by omega, hide (back hbel.out hb1)⟩
        show Value.string (⟨s.toArray⟩ ++ (⟨[32].toArray⟩ ++ ⟨d.toArray⟩)) = _
        have e2 : word ++ ((xs.take k).flatMap numB ++ numB (m : Int)) = s ++ ([32] ++ d) := by
          rw [← List.append_assoc, HS.out]
          unfold numB
          rw [Int.toNat_natCast, HD.out]
          rfl
        rw [str_app, str_app, HST.out, e2]
      case measure => simp [intOf]; omega
    · have hl3 : ¬ ((k : Int) < xs.length) := by omega
      have hc1 : ¬ 9223372036854775807 < s.length + 1 := by omega
      have hsx : s = word ++ xs.flatMap numB := by rw [← HS.out, List.take_of_length_le (by omega)]
      have HSX := hide hsx
      clear hsx
      go_wp2_with fail
      go_ret
      refine ⟨?_, hbel.out⟩
      show Ending.returned (.string (⟨s.toArray⟩ ++ ⟨[10].toArray⟩)) = _
      rw [str_app, HSX.out]
      rfl
end Go.Proofs.YtfbgnnelnpcbiaaDoor

namespace Go.Proofs.YtfbgnnelnpcbiaaDoor
open Go.RowKit Go.Shelf

theorem step_cat {ops : Array Oper} {o : Oper} {a : Act} {w : World} {K : Act → World → Prop} {Q : Exit → Act → World → Prop} {E : Prop} (hgd : o.guard = none) (s x : Operand)
    (ho : o.op = .call { callee := .builtin .append, args := #[s, x], argTypes := #[22, 22] })
    (B : Nat) (v : Value) (xs ys : List Int) (b off m c : Nat) (hown : Own B w v xs) (hs : a.eval s = v) (hx : a.eval x = .slice (some ⟨b, off, none⟩) m c) (hi : IsL w (.slice (some ⟨b, off, none⟩) m c) ys) (h0 : 0 < m) (hl : xs.length + m ≤ 1000000) (hB : B ≤ w.heap.size)
    (h : ∀ v' w', Own B w' v' (xs ++ ys) → Below B w w' → K (a.put o.dst v') w') :
    if Region.wanted o (yielded ops a.tmps) = true then Oper.wp Tryd.prog o a w K Q else E := by
  obtain ⟨i0, hi0, hz0, hz1, hz2⟩ := info_parts infoI'
  obtain ⟨_, _, hv, _, _, _, h4⟩ := hi
  obtain ⟨rfl, rfl, rfl⟩ := Value.slice.inj hv
  obtain ⟨_, _, e, hbl, hc⟩ := h4 (by intro h; rw [h] at h0; simp at h0)
  cases e
  refine step_append_lies w hgd s x 22 ho B 3 i0 _ 1 8 Tryd.underlying22 hi0 hz0 hz1 hz2 rfl (by decide) v xs.length (xs.map (Value.int .i64)) hs hown ⟨b, off, none⟩ ys.length c (ys.map (Value.int .i64)) hx (by simp) ?_ ?_ h0 (by simp only [maxLen]; omega) (by omega) hB w.heap.size rfl ?_
  · intro j u hj
    rw [List.getElem?_map] at hj
    by_cases hjl : j < ys.length
    · rw [List.getElem?_eq_getElem hjl] at hj
      simp only [Option.map_some, Option.some.injEq] at hj
      subst hj
      have := hc j hjl
      rw [List.getElem?_eq_getElem hjl] at this
      simp only [Option.getD_some] at this
      by_cases h0 : j = 0
      · subst h0; simpa [Addr.add] using this
      · simpa [Addr.add, h0] using this
    · rw [List.getElem?_eq_none (by omega)] at hj; simp at hj
  · intro u hu
    obtain ⟨z, _, rfl⟩ := List.mem_map.1 hu
    rfl
  · intro g cap w' h1 h2 h3 h4
    refine h _ w' ?_ ((Below.refl B w).grown h2 hB (fun k hk => (hown.lt k hk).1))
    unfold Own
    simpa using h1

/-- The lines of the stations. -/
def statB (S : List Int) (H : List (List Int)) (k : Nat) : List UInt8 := (List.range k).flatMap fun i => lineB [115, 116, 97, 116, 105, 111, 110] (at_ S i :: rowAt H i)
/-- A table's text. -/
def printB (S W : List Int) (H : List (List Int)) : List UInt8 := lineB [119, 97, 116, 101, 114, 115] W ++ statB S H S.length
def printE (S W : List Int) (H : List (List Int)) : List UInt8 := if tabE S W H = 0 then printB S W H else []

theorem statB_snoc (S : List Int) (H : List (List Int)) (k : Nat) : statB S H (k + 1) = statB S H k ++ lineB [115, 116, 97, 116, 105, 111, 110] (at_ S k :: rowAt H k) := by
  unfold statB; rw [List.range_succ, List.flatMap_append]; simp
theorem line_len {word : List UInt8} (hw : word.length ≤ 100) {l : List Int} (h : ∀ x ∈ l, x ≤ 1000000) : (lineB word l).length ≤ 101 + 1000002 * l.length := by
  unfold lineB
  have := nums_len h
  rw [List.length_append, List.length_append, List.length_singleton]; omega
theorem statB_len {S : List Int} {H : List (List Int)} (h : ∀ i, ∀ x ∈ at_ S i :: rowAt H i, x ≤ 1000000) (h7 : ∀ i, (rowAt H i).length ≤ 7) (k : Nat) : (statB S H k).length ≤ 9000000 * k := by
  induction k with
  | zero => simp [statB]
  | succ k ih =>
    have := line_len (word := [115, 116, 97, 116, 105, 111, 110]) (by decide) (h k)
    rw [List.length_cons] at this
    have := h7 k
    rw [statB_snoc, List.length_append]; omega

set_option maxRecDepth 100000 in
set_option maxHeartbeats 8000000 in
theorem rPrint_w (a1 a2 a3 : Option Addr) (n1 n2 n3 c1 c2 c3 : Nat) (vs : List Value) (S W : List Int) (H : List (List Int)) (w : World) (i1 : IsL w (.slice a1 n1 c1) S) (i2 : IsL w (.slice a2 n2 c2) W) (i3 : IsRB w.heap.size w (.slice a3 n3 c3) vs H) :
    Calls Tryd.prog 11 #[.agg #[.slice a1 n1 c1, .slice a2 n2 c2, .slice a3 n3 c3]] w fun e w' => e = .returned (.tuple #[.string ⟨(printE S W H).toArray⟩, .int .i64 (tabE S W H)]) ∧ Below w.heap.size w w' := by
  have hn1 : n1 = S.length := by obtain ⟨_, _, hv, _⟩ := i1; cases hv; rfl
  have hn2 : n2 = W.length := by obtain ⟨_, _, hv, _⟩ := i2; cases hv; rfl
  have hn3 : n3 = H.length := by obtain ⟨_, _, _, _, hv, _⟩ := i3; cases hv; rfl
  subst hn1; subst hn2; subst hn3
  go_enter Tryd.func11, Tryd.ntmps11
  go_wp2_with fail
  obtain ⟨w0, hw0⟩ : ∃ V, w.alloc (.cells #[.slice a1 S.length c1, .slice a2 W.length c2, .slice a3 H.length c3] 25) = V := ⟨_, rfl⟩
  have b0 : Below w.heap.size w w0 := by rw [← hw0]; exact (Below.refl _ _).alloc (Nat.le_refl _) _
  have K0 : Blk w0 w.heap.size 25 #[.slice a1 S.length c1, .slice a2 W.length c2, .slice a3 H.length c3] := by rw [← hw0]; exact Blk.new _ _ _
  have z0 : w.heap.size < w0.heap.size := by rw [← hw0]; simp
  rw [hw0]
  have j1 := i1.below b0
  have j2 := i2.below b0
  have j3 := (i3.below b0).more b0.size
  have e0 : w0.cell? ⟨w.heap.size, 0, none⟩ = some (.slice a1 S.length c1) := K0.cell 0
  have e1 : w0.cell? ⟨w.heap.size, 1, none⟩ = some (.slice a2 W.length c2) := K0.cell 1
  have e2 : w0.cell? ⟨w.heap.size, 2, none⟩ = some (.slice a3 H.length c3) := K0.cell 2
  have hct := rCheckTable_w _ _ _ vs S W H w0 j1 j2 j3
  have HB0 := hide b0; have HK0 := hide K0; have J1 := hide j1; have J2 := hide j2; have J3 := hide j3
  clear b0 K0 j1 j2 j3 i1 i2 i3 hw0
  rcases tabE_or S W H with h | h
  · have hpe : printE S W H = printB S W H := by unfold printE; rw [if_pos h]
    have hok := tab_ok h
    rw [h] at hct
    have HCT := hide hct; have HOK := hide hok; have HPE := hide hpe; have HTE := hide h
    clear hct hpe hok h
    have s2 := HOK.out.1.lo
    have s9 := HOK.out.1.hi
    have w2 := HOK.out.2.1.lo
    have w7 := HOK.out.2.2.1
    have hHS := HOK.out.2.2.2.2.1
    have bS : ∀ i, 0 ≤ at_ S i ∧ at_ S i ≤ 100000 := fun i => pos_bd HOK.out.1 i
    have bH := HOK.out.2.2.2.2.2.2
    have HHS := hide hHS; have BS := hide bS
    clear hHS bS bH
    refine HCT.out.mono ?_
    rintro e w1 ⟨rfl, hb1⟩
    have f1 : w1.cell? ⟨w.heap.size, 1, none⟩ = some (.slice a2 W.length c2) := (HK0.out.below hb1).cell 1
    have hrw := row_w [119, 97, 116, 101, 114, 115] (by decide) a2 W.length c2 W w1 (J2.out.below hb1) (fun x hx => by
      obtain ⟨i, hi, rfl⟩ := List.getElem_of_mem hx
      have := HOK.out.2.1.bd i hi
      rw [at_get hi] at this; omega) (by omega)
    have HRW := hide hrw; have HB1 := hide hb1
    clear hrw hb1 e0 e1 e2
    go_wp2_with fail
    refine HRW.out.mono ?_
    rintro e w2' ⟨rfl, hb2⟩
    have HB2 := hide (back HB1.out hb2)
    have hln := line_len (word := [119, 97, 116, 101, 114, 115]) (by decide) (l := W) (fun x hx => by
      obtain ⟨i, hi, rfl⟩ := List.getElem_of_mem hx
      have := HOK.out.2.1.bd i hi
      rw [at_get hi] at this; omega)
    have HLN := hide hln
    clear hb2 hln HRW HCT HB1
    go_wp2_with fail
    go_loopw [4, 5] (fun s i wr => ∃ k : Nat, s = .string ⟨(lineB [119, 97, 116, 101, 114, 115] W ++ statB S H k).toArray⟩ ∧ i = .int .i64 k ∧ k ≤ S.length ∧ Hid (Below w0.heap.size w0 wr)) (fun _ i _ => S.length - (intOf i).toNat)
    case atStart => exact ⟨0, by simp [statB], rfl, Nat.zero_le _, HB2⟩
    case round =>
      obtain ⟨k, rfl, rfl, hk, hbel⟩ := hrel
      have hsz := hbel.out.size
      obtain ⟨s, hs⟩ : ∃ s, lineB [119, 97, 116, 101, 114, 115] W ++ statB S H k = s := ⟨_, rfl⟩
      rw [hs]
      have h7 : ∀ i, (rowAt H i).length ≤ 7 := by
        intro i
        by_cases hi : i < H.length
        · rw [HOK.out.2.2.2.2.2.1 i hi]; exact w7
        · unfold rowAt; rw [List.getElem?_eq_none (by omega)]; simp
      have hle : ∀ i, ∀ x ∈ at_ S i :: rowAt H i, x ≤ 1000000 := by
        intro i x hx
        rcases List.mem_cons.1 hx with rfl | hx
        · have := BS.out i; omega
        · obtain ⟨j, hj, rfl⟩ := List.getElem_of_mem hx
          have := HOK.out.2.2.2.2.2.2 i j
          rw [at_get hj] at this; omega
      have hsl : s.length ≤ 8000000 + 9000000 * k := by
        have h1 := statB_len hle h7 k
        have h2 := HLN.out
        rw [← hs, List.length_append]; omega
      have HS := hide hs; have HLE := hide hle; have H7 := hide h7
      clear hs h7 hle
      by_cases hlt : k < S.length
      · have hl3 : (k : Int) < S.length := by omega
        have hge : ∀ x ∈ rowAt H k, 0 ≤ x := by
          intro x hx
          obtain ⟨j, hj, rfl⟩ := List.getElem_of_mem hx
          have ht := HTE.out
          unfold tabE at ht
          split at ht
          · rename_i h'
            unfold tabB at h'
            simp only [Bool.and_eq_true, decide_eq_true_eq] at h'
            have ha := h'.2
            rw [List.all_eq_true] at ha
            have hk' : k < H.length := by rw [HHS.out]; exact hlt
            have hr := ha (H[k]) (List.getElem_mem hk')
            unfold rowB at hr
            simp only [Bool.and_eq_true, List.all_eq_true] at hr
            have he : rowAt H k = H[k] := by unfold rowAt; rw [List.getElem?_eq_getElem hk']; rfl
            have := hr.2 _ (by rw [← he]; exact List.getElem_mem hj)
            simp only [inB, decide_eq_true_eq] at this
            omega
          · simp at ht
        have hall : ∀ x ∈ at_ S k :: rowAt H k, 0 ≤ x ∧ x ≤ 1000000 := by
          intro x hx
          refine ⟨?_, HLE.out k x hx⟩
          rcases List.mem_cons.1 hx with rfl | hx
          · exact (BS.out k).1
          · exact hge x hx
        have hl : (rowAt H k).length = W.length := HOK.out.2.2.2.2.2.1 k (by rw [HHS.out]; exact hlt)
        obtain ⟨_, hr, _, _, hv3, l3, m3, q3⟩ := J3.out
        obtain ⟨rfl, _, rfl⟩ := Value.slice.inj hv3
        obtain ⟨b3, o3, rfl, hb3, q3⟩ := q3 (by intro h; have := HHS.out; rw [h] at this; simp at this; omega)
        have h0 := q3 k (by rw [HHS.out]; exact hlt)
        have hrk := hr k (by rw [HHS.out]; exact hlt)
        change IsLB _ _ _ (rowAt H k) at hrk
        obtain ⟨ra, rc, hra, _⟩ := id hrk
        rw [hra, hl] at hrk h0
        obtain ⟨b4, o4, rfl⟩ : ∃ b o, ra = some ⟨b, o, none⟩ := by
          obtain ⟨_, _, hv, _, _, _, h4⟩ := hrk
          obtain ⟨rfl, _, _⟩ := Value.slice.inj hv
          obtain ⟨b, o, e, _⟩ := h4 (by intro h; rw [h] at hl; simp at hl; omega)
          exact ⟨b, o, e⟩
        obtain ⟨b1, o1, rfl⟩ : ∃ b o, a1 = some ⟨b, o, none⟩ := by
          obtain ⟨_, _, hv, _, _, _, h4⟩ := J1.out
          obtain ⟨rfl, _, _⟩ := Value.slice.inj hv
          obtain ⟨b, o, e, _⟩ := h4 (by intro h; rw [h] at hlt; simp at hlt)
          exact ⟨b, o, e⟩
        have CR := fun (V : World) (a : Option Addr) (n cap : Nat) (hI : IsL V (.slice a n cap) (at_ S k :: rowAt H k)) => row_w [115, 116, 97, 116, 105, 111, 110] (by decide) a n cap (at_ S k :: rowAt H k) V hI hall (by rw [List.length_cons, hl]; omega)
        have hll := line_len (word := [115, 116, 97, 116, 105, 111, 110]) (by decide) (HLE.out k)
        have hsn := statB_snoc S H k
        have hfb : ∀ x ∈ at_ S k :: rowAt H k, FB x := fun x hx => by have := hall x hx; exact ⟨by omega, by omega⟩
        have hl1 : (at_ S k :: rowAt H k).length = W.length + 1 := by rw [List.length_cons, hl]
        rw [hl1] at hll
        obtain ⟨t, ht⟩ : ∃ t, lineB [115, 116, 97, 116, 105, 111, 110] (at_ S k :: rowAt H k) = t := ⟨_, rfl⟩
        rw [ht] at CR hll hsn
        obtain ⟨x, hx⟩ : ∃ x, at_ S k = x := ⟨_, rfl⟩
        have kp : ∀ V : World, Below w0.heap.size w0 V → V.cell? ⟨w.heap.size, 0, none⟩ = some (.slice (some ⟨b1, o1, none⟩) S.length c1) ∧ V.cell? ⟨w.heap.size, 2, none⟩ = some (.slice (some ⟨b3, o3, none⟩) H.length c3) ∧ V.cell? ⟨b1, o1 + k, none⟩ = some (.int .i64 x) ∧ V.cell? ⟨b3, o3 + k, none⟩ = some (.slice (some ⟨b4, o4, none⟩) W.length rc) ∧ Below w0.heap.size w0 V := by
          intro V hb
          refine ⟨(HK0.out.below hb).cell 0, (HK0.out.below hb).cell 2, ?_, (hb.cell (p := ⟨b3, o3 + k, none⟩) hb3).trans h0, hb⟩
          rw [← hx]; exact rowL_at (J1.out.below hb) hlt
        rw [hx] at CR hl1 hfb
        have hc1 : ¬ 9223372036854775807 < s.length + t.length := by omega
        have hkH : k < H.length := by rw [HHS.out]; exact hlt
        have hkH3 : (k : Int) < H.length := by omega
        have KP := hide kp; have HCR := hide CR; have HSN := hide hsn; have HRK := hide hrk; have HL := hide hl; have HFB := hide hfb; have HL1 := hide hl1
        have hST := (KP.out wr hbel.out).1
        clear kp CR hsn hrk hl hfb hl1 hge hall hra hv3 h0 hr q3 ht hx hll
        have ST := hide (KP.out wr hbel.out)
        go_wp2_with fail
        clear hST
        go_region_held3 (fun V => V.cell? ⟨w.heap.size, 0, none⟩ = some (.slice (some ⟨b1, o1, none⟩) S.length c1) ∧ V.cell? ⟨w.heap.size, 2, none⟩ = some (.slice (some ⟨b3, o3, none⟩) H.length c3) ∧ V.cell? ⟨b1, o1 + k, none⟩ = some (.int .i64 x) ∧ V.cell? ⟨b3, o3 + k, none⟩ = some (.slice (some ⟨b4, o4, none⟩) W.length rc) ∧ Below w0.heap.size w0 V)
          (first | exact ST.out | assumption | (refine KP.out _ ?_; first | exact hS6.out | exact hS5.out | exact below_drewN hbel.out 1 | exact (hbel.out.alloc hsz _).drew | exact hbel.out | exact hS5.out.drew))
          (first
            | (refine step_cat (o := ⟨some 31, _, _, _, _, _⟩) (by rfl) (.tmp 25) (.tmp 30) (by rfl) wr.heap.size _ [x] (rowAt H k) b4 o4 W.length rc (World.ownsRow.drew (Own.one wr x (Nat.le_refl _))) (by rfl) (by rfl) (IsL.below HRK.out ((hbel.out.alloc hsz _).drew)) (by omega) (by simp; omega) (by simp) ?_; intro v5 w5 ho5 hb5; obtain ⟨g5, gc5, rfl, _, _, _⟩ := ho5.form HL1.out (by omega); have hS5 := hide (((hbel.out.alloc hsz (.cells #[.int .i64 x] 3)).drew).trans (hb5.mono hsz)); have hI5 := hide (ho5.isL HFB.out))
            | (go_at_call 28; refine (HCR.out _ _ _ _ hI5.out).mono ?_; rintro e w6 ⟨rfl, hb6⟩; have hS6 := hide (back hS5.out hb6)))
        have HB6 := hide (show Below w0.heap.size w0 _ from hS6.out)
        clear hb6 hb5 ho5
        go_wp2_with fail
        go_roundw
        case rel =>
          refine ⟨k + 1, ?_, by go_num, by omega, HB6⟩
          show Value.string (⟨s.toArray⟩ ++ ⟨t.toArray⟩) = _
          rw [str_app, HSN.out, ← List.append_assoc, HS.out]
        case measure => simp [intOf]; omega
      · have hl3 : ¬ ((k : Int) < S.length) := by omega
        obtain rfl : k = S.length := by omega
        have f0 : wr.cell? ⟨w.heap.size, 0, none⟩ = some (.slice a1 S.length c1) := (HK0.out.below hbel.out).cell 0
        go_wp2_with fail
        go_ret2
        exact ⟨by rw [HPE.out, HTE.out]; unfold printB; rw [HS.out]; rfl, HB0.out.trans (hbel.out.mono HB0.out.size)⟩
  · have hpe : printE S W H = [] := by unfold printE; rw [if_neg (by rw [h]; decide)]
    rw [h] at hct
    have HCT := hide hct; have HPE := hide hpe; have HTE := hide h
    clear hct hpe h
    refine HCT.out.mono ?_
    rintro e w1 ⟨rfl, hb1⟩
    go_wp2_with fail
    go_ret2
    exact ⟨by rw [HPE.out, HTE.out]; rfl, HB0.out.trans (hb1.mono HB0.out.size)⟩
end Go.Proofs.YtfbgnnelnpcbiaaDoor
