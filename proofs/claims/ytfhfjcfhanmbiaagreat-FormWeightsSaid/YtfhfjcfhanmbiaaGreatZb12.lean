import Derived.Test.YtfhfjcfhanmbiaaGreatZb11
import Derived.Lib.SmallJoins
import Derived.OpenShut
import Derived.Deep.Slices
import Derived.Deep.Strs
import Derived.ProofKit
import Derived.Test.YtfhfjcfhanmbiaaGreatZb04
import Derived.Test.YtfhfjcfhanmbiaaGreatProg
import Derived.KernelRfl
set_option linter.unusedVariables false
set_option linter.unusedSimpArgs false
/- The law FormWeights, by the evaluator. -/
namespace Go.Proofs.YtfhfjcfhanmbiaaGreat
open Go Go.RowKit
namespace Ev
section
variable {X : FuncId → List Value → St → (Value → St → Bool) → Bool}
theorem FormWeights_s (n : Nat) (d r al up : Int) (a1 a2 : Option Addr) (c1 c2 : Nat) (l1 l2 : List Int) (wk ws ww : Int) (s : St) (hs : Wf s) (hn : 2814749767106560 ≤ n) (hl1 : IntsE s a1 l1) (hl2 : IntsE s a2 l2) (hc2 : c2 < OPEN) (hlc : l2.length ≤ c2) : Spec Tryz.prog (tabK tabw) (knownX 6) (n + 3000) 5 [.agg ⟨[.int .i64 d, .int .i64 r, .slice a1 l1.length c1, .slice a2 l2.length c2, .int .i64 al, .int .i64 up]⟩, .agg ⟨[.int .i64 wk, .int .i64 ws, .int .i64 ww]⟩] s (fun v A => v = .bool true ∧ A = []) := by
 refine enter bw5_at rfl hs ?_
 unfold bw5
 have hlen1 := hl1.len
 have hlen2 := hl2.len
 refine r_seq (r_items ?_)
 refine i_op (a_box rfl rfl rfl (fun b1 => ?_)) rfl rfl
 refine i_op (a_box rfl rfl rfl (fun b2 => ?_)) rfl rfl
 refine i_mv rfl rfl rfl (i_nil (then_n (r_seq (r_items ?_))))
 refine i_op (a_callV rfl rfl (fun s1 h1 => known_s _ s1 h1.wf) ?_) rfl rfl
 refine i_mv rfl rfl rfl (i_nil (then_n (r_seq (r_items ?_))))
 refine i_op (a_lda rfl (by decide) (.next .here) rfl ?_) rfl rfl
 refine i_op (a_lda rfl (by decide) .here rfl ?_) rfl rfl
 refine i_op (a_call rfl rfl (fun s1 h1 => pWeights_s _ _ _ _ _ _ _ _ _ _ _ _ _ _ s1 h1.wf (by omega) (hl1.ext hs h1.2.1) (hl2.ext hs h1.2.1) hc2 hlc) (fun v1 A1 q1 => ?_)) rfl rfl
 rcases q1 with ⟨ep, fp, bA, rfl, rfl⟩ | ⟨ep, fp, rfl, rfl⟩ | ⟨ep, rfl, rfl⟩
 ·refine i_mv rfl rfl rfl ?_
  iterate 3 refine i_op (a_ext rfl rfl ?_) rfl rfl
  refine i_mv rfl rfl rfl (i_mv rfl rfl rfl (i_mv rfl rfl rfl (i_nil (then_n (r_seq (r_items ?_))))))
  refine i_op (a_lda rfl (by decide) (.next (.next .here)) rfl ?_) rfl rfl
  refine i_op (a_lda rfl (by decide) (.next .here) rfl ?_) rfl rfl
  refine i_op (a_call rfl rfl (fun s1 h1 => qWeights_s _ _ _ _ _ _ _ _ _ _ _ _ _ _ s1 h1.wf (by omega) (hl1.ext hs h1.2.1) (hl2.ext hs h1.2.1) hc2 hlc) (fun v1 A1 q1 => ?_)) rfl rfl
  rcases q1 with ⟨eq, fq, bB, rfl, rfl⟩ | ⟨eq, fq, rfl, rfl⟩ | ⟨eq, rfl, rfl⟩
  ·refine i_mv rfl rfl rfl ?_
   iterate 3 refine i_op (a_ext rfl rfl ?_) rfl rfl
   refine i_mv rfl rfl rfl (i_mv rfl rfl rfl (i_mv rfl rfl rfl (i_nil (then_n (r_seq (r_items (i_mv rfl rfl rfl (i_mv rfl rfl rfl ?_))))))))
   try rw [show l2.length * l1.length + 1 = (resW wk ws ww l1 l2).length from resW_len.symm]
   refine i_op (a_callV rfl rfl (fun s1 h1 => SameInts_s _ _ _ _ _ (resW wk ws ww l1 l2) s1 h1.wf (by omega) (IntsE.own (h1.own (.next .here)) (resW_fit (plan_p1 ep.2.2.2.2) (plan_p2 ep.2.2.2.2) (fun h => by omega)) (by rw [resW_len]; have hs9 := plan_small ep.2.2.2.2; omega)) (IntsE.own (h1.own .here) (resW_fit (plan_p1 ep.2.2.2.2) (plan_p2 ep.2.2.2.2) (fun h => by omega)) (by rw [resW_len]; have hs9 := plan_small ep.2.2.2.2; omega))) ?_) rfl rfl
   refine i_mv rfl rfl rfl (i_nil (then_n (r_seq (r_items (i_mv rfl rfl rfl (i_mv rfl rfl rfl (i_mv rfl rfl rfl ?_)))))))
   refine i_op (a_pick_t rfl rfl rfl ?_) rfl rfl
   refine i_mv rfl rfl rfl (i_mv rfl rfl rfl (i_mv rfl rfl rfl ?_))
   refine i_op (a_eql rfl rfl (fun h3 => ?_) (fun h3 => ?_)) rfl rfl
   ·refine i_op (a_pick_t rfl rfl rfl ?_) rfl rfl
    refine i_mv rfl rfl rfl (i_mv rfl rfl rfl (i_mv rfl rfl rfl ?_))
    refine i_op (a_eql rfl rfl (fun _ => ?_) (fun h => absurd h (by decide))) rfl rfl
    refine i_op (a_pick_t rfl rfl rfl ?_) rfl rfl
    refine i_mv rfl rfl rfl (i_nil (then_n (r_ret ?_)))
    exact end1 rfl ⟨rfl, rfl⟩
   ·exact absurd rfl h3
  ·first | exact absurd ep eq | exact absurd eq ep | exact absurd fp fq | exact absurd fq fp
  ·first | exact absurd ep eq | exact absurd eq ep | exact absurd fp fq | exact absurd fq fp
 ·refine i_mv rfl rfl rfl ?_
  iterate 3 refine i_op (a_ext rfl rfl ?_) rfl rfl
  refine i_mv rfl rfl rfl (i_mv rfl rfl rfl (i_mv rfl rfl rfl (i_nil (then_n (r_seq (r_items ?_))))))
  refine i_op (a_lda rfl (by decide) (.next .here) rfl ?_) rfl rfl
  refine i_op (a_lda rfl (by decide) .here rfl ?_) rfl rfl
  refine i_op (a_call rfl rfl (fun s1 h1 => qWeights_s _ _ _ _ _ _ _ _ _ _ _ _ _ _ s1 h1.wf (by omega) (hl1.ext hs h1.2.1) (hl2.ext hs h1.2.1) hc2 hlc) (fun v1 A1 q1 => ?_)) rfl rfl
  rcases q1 with ⟨eq, fq, bB, rfl, rfl⟩ | ⟨eq, fq, rfl, rfl⟩ | ⟨eq, rfl, rfl⟩
  ·first | exact absurd ep eq | exact absurd eq ep | exact absurd fp fq | exact absurd fq fp
  ·refine i_mv rfl rfl rfl ?_
   iterate 3 refine i_op (a_ext rfl rfl ?_) rfl rfl
   refine i_mv rfl rfl rfl (i_mv rfl rfl rfl (i_mv rfl rfl rfl (i_nil (then_n (r_seq (r_items (i_mv rfl rfl rfl (i_mv rfl rfl rfl ?_))))))))
   try rw [show l2.length * l1.length + 1 = (resW wk ws ww l1 l2).length from resW_len.symm]
   refine i_op (a_callV rfl rfl (fun s1 h1 => SameInts_s _ _ _ _ _ [] s1 h1.wf (by omega) IntsE.nil IntsE.nil) ?_) rfl rfl
   refine i_mv rfl rfl rfl (i_nil (then_n (r_seq (r_items (i_mv rfl rfl rfl (i_mv rfl rfl rfl (i_mv rfl rfl rfl ?_)))))))
   refine i_op (a_pick_t rfl rfl rfl ?_) rfl rfl
   refine i_mv rfl rfl rfl (i_mv rfl rfl rfl (i_mv rfl rfl rfl ?_))
   refine i_op (a_eql rfl rfl (fun _ => ?_) (fun h => absurd h (by decide))) rfl rfl
   refine i_op (a_pick_t rfl rfl rfl ?_) rfl rfl
   refine i_mv rfl rfl rfl (i_mv rfl rfl rfl (i_mv rfl rfl rfl ?_))
   refine i_op (a_eql rfl rfl (fun _ => ?_) (fun h => absurd h (by decide))) rfl rfl
   refine i_op (a_pick_t rfl rfl rfl ?_) rfl rfl
   refine i_mv rfl rfl rfl (i_nil (then_n (r_ret ?_)))
   exact end1 rfl ⟨rfl, rfl⟩
  ·first | exact absurd ep eq | exact absurd eq ep | exact absurd fp fq | exact absurd fq fp
 ·refine i_mv rfl rfl rfl ?_
  iterate 3 refine i_op (a_ext rfl rfl ?_) rfl rfl
  refine i_mv rfl rfl rfl (i_mv rfl rfl rfl (i_mv rfl rfl rfl (i_nil (then_n (r_seq (r_items ?_))))))
  refine i_op (a_lda rfl (by decide) (.next .here) rfl ?_) rfl rfl
  refine i_op (a_lda rfl (by decide) .here rfl ?_) rfl rfl
  refine i_op (a_call rfl rfl (fun s1 h1 => qWeights_s _ _ _ _ _ _ _ _ _ _ _ _ _ _ s1 h1.wf (by omega) (hl1.ext hs h1.2.1) (hl2.ext hs h1.2.1) hc2 hlc) (fun v1 A1 q1 => ?_)) rfl rfl
  rcases q1 with ⟨eq, fq, bB, rfl, rfl⟩ | ⟨eq, fq, rfl, rfl⟩ | ⟨eq, rfl, rfl⟩
  ·first | exact absurd ep eq | exact absurd eq ep | exact absurd fp fq | exact absurd fq fp
  ·first | exact absurd ep eq | exact absurd eq ep | exact absurd fp fq | exact absurd fq fp
  ·refine i_mv rfl rfl rfl ?_
   iterate 3 refine i_op (a_ext rfl rfl ?_) rfl rfl
   refine i_mv rfl rfl rfl (i_mv rfl rfl rfl (i_mv rfl rfl rfl (i_nil (then_n (r_seq (r_items (i_mv rfl rfl rfl (i_mv rfl rfl rfl ?_))))))))
   try rw [show l2.length * l1.length + 1 = (resW wk ws ww l1 l2).length from resW_len.symm]
   refine i_op (a_callV rfl rfl (fun s1 h1 => SameInts_s _ _ _ _ _ [] s1 h1.wf (by omega) IntsE.nil IntsE.nil) ?_) rfl rfl
   refine i_mv rfl rfl rfl (i_nil (then_n (r_seq (r_items (i_mv rfl rfl rfl (i_mv rfl rfl rfl (i_mv rfl rfl rfl ?_)))))))
   refine i_op (a_pick_t rfl rfl rfl ?_) rfl rfl
   refine i_mv rfl rfl rfl (i_mv rfl rfl rfl (i_mv rfl rfl rfl ?_))
   refine i_op (a_eql rfl rfl (fun _ => ?_) (fun h => absurd h (by decide))) rfl rfl
   refine i_op (a_pick_t rfl rfl rfl ?_) rfl rfl
   refine i_mv rfl rfl rfl (i_mv rfl rfl rfl (i_mv rfl rfl rfl ?_))
   refine i_op (a_eql rfl rfl (fun _ => ?_) (fun h => absurd h (by decide))) rfl rfl
   refine i_op (a_pick_t rfl rfl rfl ?_) rfl rfl
   refine i_mv rfl rfl rfl (i_nil (then_n (r_ret ?_)))
   exact end1 rfl ⟨rfl, rfl⟩
end
end Ev
end Go.Proofs.YtfhfjcfhanmbiaaGreat
/- What the row's arguments are, for the evaluator: rows of structs of numbers. No program here. -/
namespace Go.Proofs.YtfhfjcfhanmbiaaGreat.Ev
open Go Go.RowKit Go.ChangeShapes Go.WideShapes Go.ChangeAt Go.Joins
set_option linter.unusedVariables false
noncomputable section
def I64 (z : Int) : Prop := -9223372036854775808 ≤ z ∧ z < 9223372036854775808
theorem wf_I64 {n : Int} (h : (Lit.int .i64 n).wf = true) : I64 n := by
 simp [Lit.wf, IntKind.min, IntKind.max, IntKind.signed, IntKind.bits] at h
 unfold I64; omega
theorem lt_of_cell2 {w : World} {p : Addr} {v : Value} (h : w.cell? p = some v) : p.block < w.heap.size := by
 rcases Nat.lt_or_ge p.block w.heap.size with hlt | hge
 ·exact hlt
 ·unfold World.cell? at h; rw [Array.getElem?_eq_none hge] at h; simp at h
theorem weights_at2 {H : Type} {P : Program} : ∀ {ts : List TypeId} {ds : List (DataW H)} (_ : (DataW.weightsEach P ts ds).all (· ≤ reachBytes) = true) {j : Nat} {t : TypeId} {d : DataW H} (_ : ts[j]? = some t) (_ : ds[j]? = some d), ∀ x ∈ DataW.weights P t d, x ≤ reachBytes := by
 intro ts ds h j t d ht hd x hx
 have := List.all_eq_true.1 h x (DataW.weights_mem_each ht hd x hx)
 simpa using this
theorem add_flat2 (b o k : Nat) : (⟨b, o, none⟩ : Addr).add k = ⟨b, o + k, none⟩ := by
 unfold Addr.add
 by_cases h : k = 0
 ·subst h; simp
 ·simp [h]
def IntCells (H : Type) (P : Program) (enc : TypeId × Value → H) (W : World) (e w : Nat) : Prop :=
 ∀ {base fuel : Nat} {sp : Nat → Bool} {held : Bool} {cs : List Value} {x : DataW H × List MemPlace}, DataW.trod enc P W base sp held fuel e cs = some x → ∃ l : List Int, cs = l.map (.int .i64) ∧ l.length = w ∧ ∀ z ∈ l, I64 z
theorem intCells_int {H : Type} {P : Program} {enc : TypeId × Value → H} {W : World} {t : Nat} (ht : P.underlying t = some (.int .i64)) : IntCells H P enc W t 1 := by
 intro base fuel sp held cs x h
 obtain ⟨z, e, _, w⟩ := DataW.trod_int ht h
 exact ⟨[z], by simpa using e, rfl, by intro y hy; rw [List.mem_singleton.1 hy]; exact wf_I64 w⟩
theorem intCells_struct {H : Type} {P : Program} {enc : TypeId × Value → H} {W : World} {t : Nat} {fs : Array Field} {ws : List Nat} (ht : P.underlying t = some (.struct fs)) (hn : P.cellsOf t = ws.sum) (hf : ∀ i f, fs[i]? = some f → ∃ w, ws[i]? = some w ∧ P.cellsOf f.type = w ∧ f.offset = (ws.take i).sum ∧ IntCells H P enc W f.type w) (hl : fs.size = ws.length) : IntCells H P enc W t ws.sum := by
 intro base fuel sp held cs x h
 obtain ⟨xs, n, _, rfl, hcl, hlen, hfs⟩ := DataW.trod_struct ht h
 rw [hn] at hcl
 have key : ∀ (k : Nat), k ≤ ws.length → ∃ l : List Int, cs.take (ws.take k).sum = l.map (.int .i64) ∧ l.length = (ws.take k).sum ∧ ∀ z ∈ l, I64 z := by
  intro k
  induction k with
  | zero => intro _; exact ⟨[], by simp, rfl, by simp⟩
  | succ k ih =>
   intro hk
   obtain ⟨l, h1, h2, h3⟩ := ih (by omega)
   have hkf : k < fs.size := by omega
   obtain ⟨w, e1, e2, e3, e4⟩ := hf k fs[k] (Array.getElem?_eq_getElem hkf)
   have hx : ∃ y, xs[k]? = some y := ⟨xs[k]'(by rw [hlen]; simpa using hkf), List.getElem?_eq_getElem _⟩
   obtain ⟨y, hy⟩ := hx
   have h4 := hfs k fs[k] (by simp)
   have h4' : DataW.trod enc P W base sp held n fs[k].type ((cs.drop fs[k].offset).take (P.cellsOf fs[k].type)) = some y := by
    first
     | (obtain ⟨y', h5, h6⟩ := h4; rw [hy] at h5; cases h5; exact h6)
     | (rw [h4]; exact hy)
     | (rw [hy] at h4; exact h4)
   obtain ⟨l', g1, g2, g3⟩ := e4 h4'
   rw [e2, e3] at g1
   have hsum : (ws.take (k + 1)).sum = (ws.take k).sum + w := by
    rw [List.take_add_one, e1]; simp
   refine ⟨l ++ l', ?_, by rw [List.length_append, h2, g2, hsum], ?_⟩
   ·rw [hsum, List.take_add, h1, g1, List.map_append]
   ·intro z hz
    rcases List.mem_append.1 hz with hz | hz
    ·exact h3 z hz
    ·exact g3 z hz
 obtain ⟨l, h1, h2, h3⟩ := key ws.length (Nat.le_refl _)
 rw [List.take_length] at h1 h2
 rw [List.take_of_length_le (by omega)] at h1
 exact ⟨l, h1, h2, h3⟩
theorem ats_world {W : World} {b : Nat} : ∀ {r : List Int} {o : Nat}, (∀ j, j < r.length → W.cell? ⟨b, o + j, none⟩ = (r.map (Value.int .i64))[j]?) → Ats (wst W) b o (r.map (Value.int .i64))
 | [], _, _ => trivial
 | z :: r, o, h => ⟨at_world (by simpa using h 0 (by simp)) (VR.int _ _) rfl, ats_world (fun j hj => by have := h (j + 1) (by simp; omega); simpa [Nat.add_assoc, Nat.add_comm 1 j] using this)⟩
theorem rowsW {H : Type} {P : Program} {enc : TypeId × Value → H} {W : World} {t e w bytes : Nat} (ht : P.underlying t = some (.slice e)) (hc : P.cellsOf e = w) (hw : 0 < w) (hby : P.bytesOf e = bytes) (hb : 2 ≤ bytes) (hi : IntCells H P enc W e w) {a : Option Addr} {n cap fuel : Nat} (hv : NiceS W a n cap) {d : DataW H} {p : List MemPlace}
  (hf : DataW.trod enc P W 0 (fun _ => true) true fuel t [.slice a n cap] = some (d, p)) (hz : ∀ x ∈ DataW.weights P t d, x ≤ reachBytes) : ∃ rs : List (List Int), rs.length = n ∧ RowsE (wst W) w a rs ∧ rs.length * bytes ≤ 140737488355328 := by
 rcases Go.Deep.open_slice ht hf with ⟨hcs, _⟩ | ⟨a', l, c, m, fu, D, Pl, hcs, _, hl, hm, hmm, hd, hel⟩
 ·simp at hcs
  obtain ⟨rfl, rfl, rfl⟩ := hcs
  exact ⟨[], rfl, ⟨hv.spot, fun h => absurd rfl h, fun _ _ h => (by cases h), by simp, by simp, by simp⟩, by simp⟩
 ·simp at hcs
  obtain ⟨rfl, rfl, rfl⟩ := hcs
  have hml : n ≤ m := by rw [hmm]; split <;> omega
  have hch : ∀ i, ∃ y : List Int, i < n → (y.length = w ∧ ∀ z ∈ y, I64 z) ∧ ∀ r, r < w → W.cell? ((a'.add (i * w)).add r) = (y.map (Value.int .i64))[r]? := by
   intro i
   by_cases hin : i < n
   ·obtain ⟨cs', h1, h2⟩ := hel i (by omega)
    obtain ⟨y, rfl, hy, hz⟩ := hi h2
    rw [hc] at h1
    obtain ⟨_, _, h3⟩ := World.cells?_some h1
    exact ⟨y, fun _ => ⟨⟨hy, hz⟩, h3⟩⟩
   ·exact ⟨[], fun h => absurd h hin⟩
  obtain ⟨Y, hY⟩ : ∃ Y : Nat → List Int, ∀ i, i < n → ((Y i).length = w ∧ ∀ z ∈ Y i, I64 z) ∧ ∀ r, r < w → W.cell? ((a'.add (i * w)).add r) = ((Y i).map (Value.int .i64))[r]? := ⟨fun i => (hch i).choose, fun i => (hch i).choose_spec⟩
  have hsp := hv.spot a' rfl
  obtain ⟨b, off, spot⟩ := a'
  have hsp' : spot = none := hsp
  subst hsp'
  have hbytes : n * bytes ≤ 140737488355328 := by
   simp only [Prod.mk.injEq] at hd
   obtain ⟨rfl, _⟩ := hd
   have := hz _ (by simp only [DataW.weights, ht]; exact List.mem_cons_self)
   rw [hby] at this
   simp only [List.length_map, List.length_range, reachBytes] at this
   have e1 : n + (m - n) = m := by omega
   rw [e1] at this
   exact Nat.le_trans (Nat.mul_le_mul_right _ hml) (by omega)
  refine ⟨(List.range n).map Y, by simp, ⟨hv.spot, fun _ => ⟨b, off, rfl⟩, ?_, ?_, ?_, ?_⟩, by simpa using hbytes⟩
  ·intro b' o' hbo i r hr
   cases hbo
   rw [List.getElem?_map] at hr
   obtain ⟨i', h1, rfl⟩ := Option.map_eq_some_iff.1 hr
   obtain ⟨h2, h3⟩ := List.getElem?_eq_some_iff.1 h1
   simp at h2 h3
   subst h3
   refine ats_world (fun j hj => ?_)
   have := (hY i h2).2 j (by rw [← (hY i h2).1.1]; exact hj)
   rw [add_flat2, add_flat2] at this
   exact this
  ·intro r hr
   obtain ⟨i, hi', rfl⟩ := List.mem_map.1 hr
   exact (hY i (List.mem_range.1 hi')).1.1
  ·intro r hr x hx
   obtain ⟨i, hi', rfl⟩ := List.mem_map.1 hr
   exact (hY i (List.mem_range.1 hi')).1.2 x hx
  ·simp
   have : n * 2 ≤ n * bytes := Nat.mul_le_mul_left _ hb
   omega
end
end Go.Proofs.YtfhfjcfhanmbiaaGreat.Ev
/- What the rows of offsets' laws let in. -/
namespace Go.Proofs.YtfhfjcfhanmbiaaGreat.Ev
open Go Go.RowKit Go.ChangeShapes Go.WideShapes Go.ChangeAt Go.Joins
set_option linter.unusedVariables false
noncomputable section
theorem cell_leS {P : Program} {W : World} {r : Reach} {b0 : Nat} {t e : TypeId} {a : Option Addr} {n c : Nat} (ht : P.underlying t = some (.slice e)) (h : Cell.okWide P W r b0 t (.slice a n c)) : n ≤ c := by
 simp only [Cell.okWide, ht] at h
 unfold Cell.ok at h
 rw [ht] at h
 split at h
 all_goals first
  | exact absurd h id
  | (rename_i h1; cases h1; done)
  | (rename_i h1 h2; cases h1; done)
  | (rename_i h1 h2; cases h2; exact Nat.le_refl _)
  | (rename_i h1 h2; cases h2; exact h.1)
  | exact h.1
  | skip
 all_goals first
  | (simp_all; done)
  | (simp_all; omega)
theorem ints_of {s : St} {a : Option Addr} {rs : List (List Int)} (h : RowsE s 1 a rs) : IntsE s a (rs.map fun r => r.getD 0 0) := by
 have hr : ∀ r ∈ rs, r = [r.getD 0 0] := fun r hr => by
  have := h.width r hr
  match r, this with
  | [z], _ => rfl
 refine ⟨h.spot, fun hn => h.addr (by rintro rfl; exact hn rfl), fun b o ha => ?_, fun x hx => ?_, by rw [List.length_map]; exact h.len⟩
 ·have key : ∀ (l : List (List Int)) (k : Nat), (∀ i r, l[i]? = some r → Ats s b (o + (k + i) * 1) (r.map (.int .i64))) → (∀ r ∈ l, r = [r.getD 0 0]) → Ats s b (o + k) (ints (l.map fun r => r.getD 0 0)) := by
   intro l
   induction l with
   | nil => intro k _ _; exact trivial
   | cons r l ih =>
    intro k h1 h2
    have q := h1 0 r rfl
    rw [h2 r (by simp)] at q
    refine ⟨?_, ?_⟩
    ·have := q.1; simpa using this
    ·have := ih (k + 1) (fun i r' hr' => by have := h1 (i + 1) r' (by simpa using hr'); rwa [show k + (i + 1) = k + 1 + i by omega] at this) (fun r' hr' => h2 r' (by simp [hr']))
     rwa [show o + (k + 1) = o + k + 1 by omega] at this
  have := key rs 0 (fun i r hr' => by rw [Nat.zero_add]; exact h.cells b o ha i r hr') hr
  simpa using this
 ·obtain ⟨r, h1, rfl⟩ := List.mem_map.1 hx
  have h2 := h.fit r h1
  rw [hr r h1] at h2 ⊢
  exact h2 _ (by simp)
theorem int_fair {H : Type} {enc : TypeId × Value → H} {W : World} : IntCells H Tryz.prog enc W 31 2 :=
 intCells_struct (ws := [1, 1]) Tryz.underlying31 (by kernel_rfl) (fun i f hf => by
  match i, hf with
  | 0, hf => cases hf; exact ⟨1, rfl, by kernel_rfl, rfl, intCells_int Tryz.underlying3⟩
  | 1, hf => cases hf; exact ⟨1, rfl, by kernel_rfl, rfl, intCells_int Tryz.underlying3⟩
  | n + 2, hf => simp at hf) rfl
theorem int_what {H : Type} {enc : TypeId × Value → H} {W : World} : IntCells H Tryz.prog enc W 60 3 :=
 intCells_struct (ws := [1, 1, 1]) Tryz.underlying60 (by kernel_rfl) (fun i f hf => by
  match i, hf with
  | 0, hf => cases hf; exact ⟨1, rfl, by kernel_rfl, rfl, intCells_int Tryz.underlying3⟩
  | 1, hf => cases hf; exact ⟨1, rfl, by kernel_rfl, rfl, intCells_int Tryz.underlying3⟩
  | 2, hf => cases hf; exact ⟨1, rfl, by kernel_rfl, rfl, intCells_int Tryz.underlying3⟩
  | n + 3, hf => simp at hf) rfl
set_option maxRecDepth 100000 in
theorem open_what {H : Type} {enc : TypeId × Value → H} {W : World} {r : Reach} {b0 : Nat} {v : Value} {d : DataW H} {p : List MemPlace} (hv : Value.okWide Tryz.prog W r b0 60 v) (h : DataW.Trod enc Tryz.prog W 0 (fun _ => true) true 60 v d p) : ∃ z0 z1 z2, v = .agg #[.int .i64 z0, .int .i64 z1, .int .i64 z2] := by
 obtain ⟨fuel, hf⟩ := h
 simp only [Value.okWide, Tryz.underlying60] at hv
 obtain ⟨⟨l⟩, rfl, _⟩ := hv
 obtain ⟨zs, h1, h2, _⟩ := int_what hf
 match zs, h2 with
 | [z0, z1, z2], _ => exact ⟨z0, z1, z2, by have : l = [.int .i64 z0, .int .i64 z1, .int .i64 z2] := h1; rw [this]⟩
set_option maxRecDepth 100000 in
theorem open_space {H : Type} {enc : TypeId × Value → H} {W : World} {r : Reach} {b0 : Nat} {v : Value} {d : DataW H} {p : List MemPlace} (hv : Value.okWide Tryz.prog W r b0 33 v) (h : DataW.Trod enc Tryz.prog W 0 (fun _ => true) true 33 v d p) (hz : ∀ x ∈ DataW.weights Tryz.prog 33 d, x ≤ reachBytes) :
  ∃ z0 z1 a2 n2 c2 r2 a3 n3 c3 r3 z4 z5, v = .agg #[.int .i64 z0, .int .i64 z1, .slice a2 n2 c2, .slice a3 n3 c3, .int .i64 z4, .int .i64 z5] ∧ r2.length = n2 ∧ NiceS W a2 n2 c2 ∧ RowsE (wst W) 1 a2 r2 ∧ r3.length = n3 ∧ NiceS W a3 n3 c3 ∧ RowsE (wst W) 1 a3 r3 ∧ n3 ≤ c3 := by
 obtain ⟨fuel, hf⟩ := h
 simp only [Value.okWide, Tryz.underlying33] at hv
 obtain ⟨cs, rfl, hsz, ts, hts, _, hc⟩ := hv
 have e2 : Tryz.prog.cellTypes Tryz.prog.depth 33 = some [3, 3, 22, 22, 3, 3] := by kernel_rfl
 rw [e2] at hts
 cases hts
 have e3 : Tryz.prog.cellsOf 33 = 6 := by kernel_rfl
 rw [e3] at hsz
 obtain ⟨l⟩ := cs
 match l, hsz with
 | [x0, x1, x2, x3, x4, x5], _ =>
  have u2 : ∃ t, [3, 3, 22, 22, 3, 3][2]? = some t ∧ Cell.okWide Tryz.prog W r b0 t x2 := by
   obtain ⟨t, h1, h2⟩ := hc 2 x2 rfl
   exact ⟨t, h1, h2⟩
  obtain ⟨t2, e2, w2⟩ := u2
  have : t2 = 22 := by simpa using e2.symm
  subst this
  have u3 : ∃ t, [3, 3, 22, 22, 3, 3][3]? = some t ∧ Cell.okWide Tryz.prog W r b0 t x3 := by
   obtain ⟨t, h1, h2⟩ := hc 3 x3 rfl
   exact ⟨t, h1, h2⟩
  obtain ⟨t3, e3, w3⟩ := u3
  have : t3 = 22 := by simpa using e3.symm
  subst this
  obtain ⟨xs, m, _, hx, _, hlen, hfs⟩ := DataW.trod_struct Tryz.underlying33 hf
  have g0 : ∃ y, xs[0]? = some y ∧ DataW.trod enc Tryz.prog W 0 (fun _ => true) true m 3 [x0] = some y := by
   have hy : ∃ y, xs[0]? = some y := ⟨xs[0]'(by rw [hlen]; decide), List.getElem?_eq_getElem _⟩
   obtain ⟨y, hy⟩ := hy
   have h4 := hfs 0 _ rfl
   rw [hy] at h4
   have e4 : Tryz.prog.cellsOf 3 = 1 := by kernel_rfl
   exact ⟨y, hy, by simpa [e4, Value.cells] using h4⟩
  obtain ⟨y0, gy0, g0⟩ := g0
  obtain ⟨l0, q0, ql0, _⟩ := intCells_int (P := Tryz.prog) Tryz.underlying3 g0
  obtain ⟨z0, rfl⟩ : ∃ z, l0 = [z] := by
   match l0, ql0 with
   | [z], _ => exact ⟨z, rfl⟩
  simp at q0
  subst q0
  have g1 : ∃ y, xs[1]? = some y ∧ DataW.trod enc Tryz.prog W 0 (fun _ => true) true m 3 [x1] = some y := by
   have hy : ∃ y, xs[1]? = some y := ⟨xs[1]'(by rw [hlen]; decide), List.getElem?_eq_getElem _⟩
   obtain ⟨y, hy⟩ := hy
   have h4 := hfs 1 _ rfl
   rw [hy] at h4
   have e4 : Tryz.prog.cellsOf 3 = 1 := by kernel_rfl
   exact ⟨y, hy, by simpa [e4, Value.cells] using h4⟩
  obtain ⟨y1, gy1, g1⟩ := g1
  obtain ⟨l1, q1, ql1, _⟩ := intCells_int (P := Tryz.prog) Tryz.underlying3 g1
  obtain ⟨z1, rfl⟩ : ∃ z, l1 = [z] := by
   match l1, ql1 with
   | [z], _ => exact ⟨z, rfl⟩
  simp at q1
  subst q1
  have g2 : ∃ y, xs[2]? = some y ∧ DataW.trod enc Tryz.prog W 0 (fun _ => true) true m 22 [x2] = some y := by
   have hy : ∃ y, xs[2]? = some y := ⟨xs[2]'(by rw [hlen]; decide), List.getElem?_eq_getElem _⟩
   obtain ⟨y, hy⟩ := hy
   have h4 := hfs 2 _ rfl
   rw [hy] at h4
   have e4 : Tryz.prog.cellsOf 22 = 1 := by kernel_rfl
   exact ⟨y, hy, by simpa [e4, Value.cells] using h4⟩
  obtain ⟨y2, gy2, g2⟩ := g2
  obtain ⟨a2, n2, c2, rfl, hN2⟩ := cell_niceS Tryz.underlying22 w2
  obtain ⟨d2, p2⟩ := y2
  have hz2 : ∀ x ∈ DataW.weights Tryz.prog 22 d2, x ≤ reachBytes := fun x hx' => hz x (by
   have hd : d = .agg (xs.map (·.1)) := by simpa using congrArg Prod.fst hx
   rw [hd]
   simp only [DataW.weights, Tryz.underlying33]
   exact DataW.weights_mem_each (j := 2) (t := 22) rfl (by rw [List.getElem?_map, gy2]; rfl) x hx')
  obtain ⟨r2, f2, k2, _⟩ := rowsW (w := 1) (bytes := 8) Tryz.underlying22 (by kernel_rfl) (by decide) (by kernel_rfl) (by decide) (intCells_int Tryz.underlying3) hN2 g2 hz2
  have g3 : ∃ y, xs[3]? = some y ∧ DataW.trod enc Tryz.prog W 0 (fun _ => true) true m 22 [x3] = some y := by
   have hy : ∃ y, xs[3]? = some y := ⟨xs[3]'(by rw [hlen]; decide), List.getElem?_eq_getElem _⟩
   obtain ⟨y, hy⟩ := hy
   have h4 := hfs 3 _ rfl
   rw [hy] at h4
   have e4 : Tryz.prog.cellsOf 22 = 1 := by kernel_rfl
   exact ⟨y, hy, by simpa [e4, Value.cells] using h4⟩
  obtain ⟨y3, gy3, g3⟩ := g3
  obtain ⟨a3, n3, c3, rfl, hN3⟩ := cell_niceS Tryz.underlying22 w3
  obtain ⟨d3, p3⟩ := y3
  have hz3 : ∀ x ∈ DataW.weights Tryz.prog 22 d3, x ≤ reachBytes := fun x hx' => hz x (by
   have hd : d = .agg (xs.map (·.1)) := by simpa using congrArg Prod.fst hx
   rw [hd]
   simp only [DataW.weights, Tryz.underlying33]
   exact DataW.weights_mem_each (j := 3) (t := 22) rfl (by rw [List.getElem?_map, gy3]; rfl) x hx')
  obtain ⟨r3, f3, k3, _⟩ := rowsW (w := 1) (bytes := 8) Tryz.underlying22 (by kernel_rfl) (by decide) (by kernel_rfl) (by decide) (intCells_int Tryz.underlying3) hN3 g3 hz3
  have g4 : ∃ y, xs[4]? = some y ∧ DataW.trod enc Tryz.prog W 0 (fun _ => true) true m 31 [x4, x5] = some y := by
   have hy : ∃ y, xs[4]? = some y := ⟨xs[4]'(by rw [hlen]; decide), List.getElem?_eq_getElem _⟩
   obtain ⟨y, hy⟩ := hy
   have h4 := hfs 4 _ rfl
   rw [hy] at h4
   have e4 : Tryz.prog.cellsOf 31 = 2 := by kernel_rfl
   exact ⟨y, hy, by simpa [e4, Value.cells] using h4⟩
  obtain ⟨y4, gy4, g4⟩ := g4
  obtain ⟨l4, q4, ql4, _⟩ := int_fair (enc := enc) (W := W) g4
  obtain ⟨z4, z5, rfl⟩ : ∃ z w, l4 = [z, w] := by
   match l4, ql4 with
   | [z, w], _ => exact ⟨z, w, rfl⟩
  simp at q4
  obtain ⟨q4, q5⟩ := q4
  subst q4; subst q5
  exact ⟨z0, z1, a2, n2, c2, r2, a3, n3, c3, r3, z4, z5, rfl, f2, hN2, k2, f3, hN3, k3, cell_leS Tryz.underlying22 w3⟩
end
end Go.Proofs.YtfhfjcfhanmbiaaGreat.Ev
