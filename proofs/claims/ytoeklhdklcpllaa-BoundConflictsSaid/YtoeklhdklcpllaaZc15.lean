import Derived.Test.YtoeklhdklcpllaaZc09
import Derived.Test.YtoeklhdklcpllaaProg
import Derived.KernelRfl
import Derived.Test.YtoeklhdklcpllaaZc08
import Derived.Test.YtoeklhdklcpllaaZc06
import Derived.Shelf.Sort.Plain
import Derived.Shelf.Slices.In.SortNone
import Derived.Shelf.Slices.CompactI
import Derived.Shelf.Slices.Empties
import Derived.Test.YtoeklhdklcpllaaZc13
set_option linter.unusedVariables false
set_option linter.unusedSimpArgs false
namespace Go.Proofs.Ytoeklhdklcpllaa.Ev
open Go Go.RowKit Go.ChangeShapes Go.WideShapes Go.ChangeAt Go.Joins
set_option linter.unusedVariables false
noncomputable section
theorem ints_of {s : St} {a : Option Addr} {rs : List (List Int)} (h : RowsE s 1 a rs) : IntsE s a (rs.map fun r => r.getD 0 0) := by
 have hr : ∀ r ∈ rs, r = [r.getD 0 0] := fun r hr => by
  have := h.width r hr
  match r, this with
  | [z], _ => rfl
 refine ⟨h.spot, fun hn => h.addr (by rintro rfl; exact hn rfl), fun b o ha => ?_, fun x hx => ?_, by rw [List.length_map]; exact h.len⟩
 ·have key : ∀ (l : List (List Int)) (k : Nat), (∀ i r, l[i]? = some r -> Ats s b (o + (k + i) * 1) (r.map (.int .i64))) -> (∀ r ∈ l, r = [r.getD 0 0]) -> Ats s b (o + k) (ints (l.map fun r => r.getD 0 0)) := by
   intro l
   induction l with
   | nil => intro k _ _; exact trivial
   | cons r l ih =>
    intro k h1 h2;have q := h1 0 r rfl;rw [h2 r (by simp)] at q;refine ⟨?_, ?_⟩
    ·have := q.1; simpa using this
    ·have := ih (k + 1) (fun i r' hr' => by have := h1 (i + 1) r' (by simpa using hr'); rwa [show k + (i + 1) = k + 1 + i by omega] at this) (fun r' hr' => h2 r' (by simp [hr']))
     rwa [show o + (k + 1) = o + k + 1 by omega] at this
  have := key rs 0 (fun i r hr' => by rw [Nat.zero_add]; exact h.cells b o ha i r hr') hr;simpa using this
 ·obtain ⟨r, h1, rfl⟩ := List.mem_map.1 hx
  have h2 := h.fit r h1;rw [hr r h1] at h2 ⊢;exact h2 _ (by simp)
set_option maxRecDepth 100000 in
theorem open_islice {H : Type} {enc : TypeId × Value -> H} {W : World} {r : Reach} {b0 : Nat} {v : Value} {d : DataW H} {p : List MemPlace} (hv : Value.okWide Try.prog W r b0 25 v) (h : DataW.Trod enc Try.prog W 0 (fun _ => true) true 25 v d p) (hz : ∀ x ∈ DataW.weights Try.prog 25 d, x <= reachBytes) :
 ∃ a n c r, v = .slice a n c /\ r.length = n /\ NiceS W a n c /\ RowsE (wst W) 1 a r := by
 obtain ⟨fuel, hf⟩ := h;simp only [Value.okWide, Try.underlying25] at hv;obtain ⟨a, n, c, rfl, hN⟩ := cell_niceS Try.underlying25 hv;obtain ⟨rs, f, k, _⟩ := rowsW (w := 1) (bytes := 8) Try.underlying25 (by kernel_rfl) (by decide) (by kernel_rfl) (by decide) (intCells_int Try.underlying3) hN (by simpa [Value.cells] using hf) hz;exact ⟨a, n, c, rs, rfl, f, hN, k⟩
end
end Go.Proofs.Ytoeklhdklcpllaa.Ev
namespace Go.Proofs.Ytoeklhdklcpllaa.Ev
open Go Go.RowKit Go.ChangeShapes Go.WideShapes Go.ChangeAt Go.Joins
set_option linter.unusedVariables false
noncomputable section
set_option maxRecDepth 100000 in
theorem int_four {H : Type} {enc : TypeId × Value -> H} {W : World} : IntCells H Try.prog enc W 26 4 := by
 intro base fuel sp held cs x h;obtain ⟨xs, m, _, _, hl, hxl, hxi⟩ := DataW.trod_array Try.underlying26 h;have e3 : Try.prog.cellsOf 26 = 4 := by kernel_rfl
 have e4 : Try.prog.cellsOf 3 = 1 := by kernel_rfl
 rw [e3] at hl
 match cs, hl with
 | [c0, c1, c2, c3], _ =>
  have g0 := hxi 0 (by omega);rw [e4] at g0;have g1 := hxi 1 (by omega);rw [e4] at g1;have g2 := hxi 2 (by omega);rw [e4] at g2;have g3 := hxi 3 (by omega);rw [e4] at g3
  match xs, hxl with
  | [y0, y1, y2, y3], _ =>
   obtain ⟨z0, q0, _, w0⟩ := DataW.trod_int Try.underlying3 (show DataW.trod enc Try.prog W base sp held m 3 [c0] = some y0 from g0);obtain ⟨z1, q1, _, w1⟩ := DataW.trod_int Try.underlying3 (show DataW.trod enc Try.prog W base sp held m 3 [c1] = some y1 from g1);obtain ⟨z2, q2, _, w2⟩ := DataW.trod_int Try.underlying3 (show DataW.trod enc Try.prog W base sp held m 3 [c2] = some y2 from g2);obtain ⟨z3, q3, _, w3⟩ := DataW.trod_int Try.underlying3 (show DataW.trod enc Try.prog W base sp held m 3 [c3] = some y3 from g3);simp at q0 q1 q2 q3;subst q0; subst q1; subst q2; subst q3;exact ⟨[z0, z1, z2, z3], rfl, rfl, fun z hz => by simp at hz; rcases hz with rfl | rfl | rfl | rfl <;> first | exact wf_I64 w0 | exact wf_I64 w1 | exact wf_I64 w2 | exact wf_I64 w3⟩
set_option maxRecDepth 100000 in
set_option maxHeartbeats 2000000 in
theorem open_raw {H : Type} {enc : TypeId × Value -> H} {W : World} {r : Reach} {b0 : Nat} {v : Value} {d : DataW H} {p : List MemPlace} (hv : Value.okWide Try.prog W r b0 24 v) (h : DataW.Trod enc Try.prog W 0 (fun _ => true) true 24 v d p) (hz : ∀ x ∈ DataW.weights Try.prog 24 d, x <= reachBytes) :
 ∃ z0 a1 n1 c1 r1, v = .agg #[.int .i64 z0, .slice a1 n1 c1] /\ r1.length = n1 /\ NiceS W a1 n1 c1 /\ RowsE (wst W) 4 a1 r1 := by
 obtain ⟨fuel, hf⟩ := h;simp only [Value.okWide, Try.underlying24] at hv;obtain ⟨cs, rfl, hsz, ts, hts, _, hc⟩ := hv;have e2 : Try.prog.cellTypes Try.prog.depth 24 = some [3, 22] := by kernel_rfl
 rw [e2] at hts;cases hts;have e3 : Try.prog.cellsOf 24 = 2 := by kernel_rfl
 rw [e3] at hsz;obtain ⟨l⟩ := cs
 match l, hsz with
 | [x0, x1], _ =>
  have u0 : ∃ t, [3, 22][0]? = some t /\ Cell.okWide Try.prog W r b0 t x0 := by
   obtain ⟨t, h1, h2⟩ := hc 0 x0 rfl;exact ⟨t, h1, h2⟩
  obtain ⟨t0, e0, w0⟩ := u0;have : t0 = 3 := by simpa using e0.symm
  subst this;have u1 : ∃ t, [3, 22][1]? = some t /\ Cell.okWide Try.prog W r b0 t x1 := by
   obtain ⟨t, h1, h2⟩ := hc 1 x1 rfl;exact ⟨t, h1, h2⟩
  obtain ⟨t1, e1, w1⟩ := u1;have : t1 = 22 := by simpa using e1.symm
  subst this;obtain ⟨xs, m, _, hx, _, hlen, hfs⟩ := DataW.trod_struct Try.underlying24 hf;have hd : d = .agg (xs.map (·.1)) := by simpa using congrArg Prod.fst hx
  have g_0 : ∃ y, xs[0]? = some y /\ DataW.trod enc Try.prog W 0 (fun _ => true) true m 3 [x0] = some y := by
   have hy : ∃ y, xs[0]? = some y := ⟨xs[0]'(by rw [hlen]; decide), List.getElem?_eq_getElem _⟩;obtain ⟨y, hy⟩ := hy;have h4 := hfs 0 _ rfl;rw [hy] at h4;have e4 : Try.prog.cellsOf 3 = 1 := by kernel_rfl
   exact ⟨y, hy, by simpa [e4, Value.cells] using h4⟩
  obtain ⟨⟨d_0, p_0⟩, gy_0, g_0⟩ := g_0;obtain ⟨l_0, q_0, ql_0, _⟩ := intCells_int (P := Try.prog) Try.underlying3 g_0;obtain ⟨z0, rfl⟩ : ∃ z, l_0 = [z] := by
   match l_0, ql_0 with
   | [z], _ => exact ⟨z, rfl⟩
  simp at q_0;subst q_0;have g_1 : ∃ y, xs[1]? = some y /\ DataW.trod enc Try.prog W 0 (fun _ => true) true m 22 [x1] = some y := by
   have hy : ∃ y, xs[1]? = some y := ⟨xs[1]'(by rw [hlen]; decide), List.getElem?_eq_getElem _⟩;obtain ⟨y, hy⟩ := hy;have h4 := hfs 1 _ rfl;rw [hy] at h4;have e4 : Try.prog.cellsOf 22 = 1 := by kernel_rfl
   exact ⟨y, hy, by simpa [e4, Value.cells] using h4⟩
  obtain ⟨⟨d_1, p_1⟩, gy_1, g_1⟩ := g_1;obtain ⟨a1, n1, c1, rfl, hN1⟩ := cell_niceS Try.underlying22 w1;have hz_1 : ∀ x ∈ DataW.weights Try.prog 22 d_1, x <= reachBytes := fun x hx' => hz x (by
   rw [hd];simp only [DataW.weights, Try.underlying24];exact DataW.weights_mem_each (j := 1) (t := 22) J (by rw [List.getElem?_map, gy_1]; rfl) x hx')
  obtain ⟨r1, f1, k1, _⟩ := rowsW (w := 4) (bytes := 32) Try.underlying22 (by kernel_rfl) (by decide) (by kernel_rfl) (by decide) int_four hN1 g_1 hz_1;exact ⟨z0, a1, n1, c1, r1, rfl, f1, hN1, k1⟩
end
end Go.Proofs.Ytoeklhdklcpllaa.Ev
namespace Go.Proofs.Ytoeklhdklcpllaa
open Go Go.RowKit
namespace Ev
set_option maxRecDepth 1000000 in
theorem sane_yes : yesK Try.prog tabw 3000 12 = true := by kernel_rfl
end Ev
theorem sane_w (w : World) : Calls Try.prog 12 #[] w fun e w' => e = .returned (.bool true) /\ Below w.heap.size w w' := Ev.yes_ok Ev.tabw_holds Ev.sane_yes w
end Go.Proofs.Ytoeklhdklcpllaa
namespace Go.Proofs.Ytoeklhdklcpllaa
open Go.Shelf Go.Proofs
def lays189_ren : Go.Shelf.Ren := ⟨fun | 189 => 68 | 125 => 83 | 257 => 82 | 128 => 98 | 129 => 99 | 294 => 90 | 295 => 91 | 296 => 92 | 297 => 93 | 298 => 94 | 299 => 95 | 216 => 80 | 300 => 96 | 301 => 97 | 328 => 103 | 329 => 104 | 330 => 105 | 331 => 106 | 332 => 107 | 215 => 89 | 343 => 109 | n => n, fun | 28 => 25 | 3 => 3 | 46 => 108 | 0 => 0 | 51 => 120 | 53 => 123 | 4 => 4 | 183 => 129 | 182 => 128 | 131 => 100 | 5 => 5 | 9 => 9 | 218 => 144 | 222 => 148 | 228 => 151 | 229 => 76 | n => n, fun | n => n⟩
theorem lays189 : Go.Proofs.Lays.n189 Try.prog lays189_ren := {
 mixed := by kernel_rfl
 f125 := Try.func83.trans (congrArg some (by kernel_rfl))
 f128 := Try.func98.trans (congrArg some (by kernel_rfl))
 f129 := Try.func99.trans (congrArg some (by kernel_rfl))
 f189 := Try.func68.trans (congrArg some (by kernel_rfl))
 f215 := Try.func89.trans (congrArg some (by kernel_rfl))
 f216 := Try.func80.trans (congrArg some (by kernel_rfl))
 f257 := Try.func82.trans (congrArg some (by kernel_rfl))
 f294 := Try.func90.trans (congrArg some (by kernel_rfl))
 f295 := Try.func91.trans (congrArg some (by kernel_rfl))
 f296 := Try.func92.trans (congrArg some (by kernel_rfl))
 f297 := Try.func93.trans (congrArg some (by kernel_rfl))
 f298 := Try.func94.trans (congrArg some (by kernel_rfl))
 f299 := Try.func95.trans (congrArg some (by kernel_rfl))
 f300 := Try.func96.trans (congrArg some (by kernel_rfl))
 f301 := Try.func97.trans (congrArg some (by kernel_rfl))
 f328 := Try.func103.trans (congrArg some (by kernel_rfl))
 f329 := Try.func104.trans (congrArg some (by kernel_rfl))
 f330 := Try.func105.trans (congrArg some (by kernel_rfl))
 f331 := Try.func106.trans (congrArg some (by kernel_rfl))
 f332 := Try.func107.trans (congrArg some (by kernel_rfl))
 f343 := Try.func109.trans (congrArg some (by kernel_rfl))
 t0 := Try.underlying0
 a0 := Try.isAgg0
 z0 := Try.sizeOf0
 v0 := Try.zeroValue0
 t3 := Try.underlying3
 a3 := Try.isAgg3
 z3 := Try.sizeOf3
 v3 := Try.zeroValue3
 t4 := Try.underlying4
 a4 := Try.isAgg4
 z4 := Try.sizeOf4
 v4 := Try.zeroValue4
 t5 := Try.underlying5
 a5 := Try.isAgg5
 z5 := Try.sizeOf5
 v5 := Try.zeroValue5
 t9 := Try.underlying9
 a9 := Try.isAgg9
 z9 := Try.sizeOf9
 v9 := Try.zeroValue9
 t28 := Try.underlying25
 a28 := Try.isAgg25
 z28 := Try.sizeOf25
 v28 := Try.zeroValue25
 t46 := Try.underlying108
 a46 := Try.isAgg108
 z46 := Try.sizeOf108
 v46 := Try.zeroValue108
 t51 := Try.underlying120
 a51 := Try.isAgg120
 z51 := Try.sizeOf120
 v51 := Try.zeroValue120
 t53 := Try.underlying123
 a53 := Try.isAgg123
 z53 := Try.sizeOf123
 v53 := Try.zeroValue123
 t131 := Try.underlying100
 a131 := Try.isAgg100
 z131 := Try.sizeOf100
 v131 := Try.zeroValue100
 t182 := Try.underlying128
 a182 := Try.isAgg128
 z182 := Try.sizeOf128
 v182 := Try.zeroValue128
 t183 := Try.underlying129
 a183 := Try.isAgg129
 z183 := Try.sizeOf129
 v183 := Try.zeroValue129
 t218 := Try.underlying144
 a218 := Try.isAgg144
 z218 := Try.sizeOf144
 v218 := Try.zeroValue144
 t222 := Try.underlying148
 a222 := Try.isAgg148
 z222 := Try.sizeOf148
 v222 := Try.zeroValue148
 t228 := Try.underlying151
 a228 := Try.isAgg151
 z228 := Try.sizeOf151
 v228 := Try.zeroValue151
 t229 := Try.underlying76
 a229 := Try.isAgg76
 z229 := Try.sizeOf76
 v229 := Try.zeroValue76 }
def laysNm220_ren : Go.Shelf.Ren := ⟨fun | 20 => 69 | n => n, fun | 22 => 25 | 3 => 3 | 4 => 4 | 0 => 0 | n => n, fun | n => n⟩
theorem laysNm220 : Go.Proofs.Lays2.n20 Try.prog laysNm220_ren := {
 mixed := by kernel_rfl
 f20 := Try.func69.trans (congrArg some (by kernel_rfl))
 t0 := Try.underlying0
 a0 := Try.isAgg0
 z0 := Try.sizeOf0
 v0 := Try.zeroValue0
 t3 := Try.underlying3
 a3 := Try.isAgg3
 z3 := Try.sizeOf3
 v3 := Try.zeroValue3
 t4 := Try.underlying4
 a4 := Try.isAgg4
 z4 := Try.sizeOf4
 v4 := Try.zeroValue4
 t22 := Try.underlying25
 a22 := Try.isAgg25
 z22 := Try.sizeOf25
 v22 := Try.zeroValue25
 i3 := by kernel_rfl }
open Go Go.RowKit Go.Lib Go.Sort
theorem sort_is : SortIs := fun blk off cap zs w h1 h2 h3 => Any.slices_Sort_int lays189 blk off cap zs w h1 h2 h3
theorem sort_no : SortNo := fun p cap w => Any.slices_Sort_int_none lays189 p cap w
theorem cpt_is : CptIs := fun blk off cap zs w h1 h2 h3 => Any.slices_Compact_int laysNm220 blk off cap zs w h1 h2 h3
theorem cpt_no : CptNo := fun a cap w => Any.slices_Compact_int_empty laysNm220 a cap w
theorem rise_world : Ev.RiseWorld Try.prog 46 := ⟨fun b cap zs cur e W h1 h2 h3 h4 h5 => rising_of sort_is cpt_is b cap zs cur e W h1 h2 h3 h4 h5, fun W => rising_no sort_no cpt_no W⟩
end Go.Proofs.Ytoeklhdklcpllaa
