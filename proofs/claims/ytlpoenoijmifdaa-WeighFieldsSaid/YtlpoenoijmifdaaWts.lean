import Derived.Test.YtlpoenoijmifdaaWof
set_option linter.unusedVariables false
set_option linter.unusedSimpArgs false
namespace Go.Proofs.Ytlpoenoijmifdaa
open Go.RowKit

theorem make_ints (n : Nat) (h : n ≤ 1000000) (w : World) : (Instr.makeSlice 38 (.int .i64 (n : Int)) (.int .i64 (n : Int))).run Try.prog w = .ok (.slice (some ⟨w.heap.size, 0, none⟩) n n) (w.alloc (.cells (ints (List.replicate n 0)) 3)) := by
  obtain ⟨i0, hi, hz0, hz1, hz2⟩ := info_parts infoI
  have := run_make (P := Try.prog) w 38 3 i0 _ Try.underlying38 hi hz0 .i64 .i64 n n (by omega) (Int.le_refl _) (by rw [hz2]; omega) (by omega)
  rw [this]
  have e : madeCells (Value.cells (.int .i64 0)) ((n : Int).toNat * i0.size) = ints (List.replicate n 0) := by
    rw [hz1, Int.toNat_natCast, Nat.mul_one]
    apply Array.toList_inj.1
    show (madeCells #[Value.int .i64 0] n).toList = _
    rw [toList_madeCells_one]; simp [ints]
  rw [e]; simp

theorem WSt.keep {tb wb : Nat} {l : List Int} {W W' : World} (h : WSt tb wb l W) (hb : Below W.heap.size W W') : WSt tb wb l W' :=
  ⟨(hb.block _ h.tal.lt).trans h.tal, (hb.block _ h.row.lt).trans h.row, h.ne⟩

theorem adder_weights {xs : List Int} (hp : Pos xs) (tb wb : Nat) :
    Adder (fun k => k = tb ∨ k = wb) 88 ⟨tb, 0, none⟩ (cons xs) (fun pre W => WSt tb wb (pre.foldl addW (List.replicate xs.length 0)) W) where
  step := by
    intro pre i j x W hj hI hL
    subst hj
    obtain ⟨rest, hL⟩ := hL
    obtain ⟨h1, h2, h3, h4⟩ := pre_bd hp hL
    have hlen : (pre.foldl addW (List.replicate xs.length 0)).length = xs.length := by rw [foldW_len]; simp
    have h5 := h4 i
    simp only at h1 h2 h3
    refine (addWeight_w tb wb _ i x W hI (by omega) (by omega) (by omega)).mono ?_
    rintro e W' ⟨he, hI', hw⟩
    refine ⟨he, by rw [List.foldl_append]; exact hI', ?_⟩
    rw [hw]
    exact (Only.refl _ _).setCell _ _ (.inr rfl)
  run := run_addWeight
  keep := fun _ _ _ h hb => h.keep hb

theorem Blk.new (w : World) (t : TypeId) (cs : Array Value) : Blk (w.alloc (.cells cs t)) w.heap.size t cs := heap_alloc_new w _
theorem Blk.alloc {w : World} {g : Nat} {t : TypeId} {cs : Array Value} (h : Blk w g t cs) (o : Obj) : Blk (w.alloc o) g t cs := (Below.heap_alloc w o g h.lt).trans h

theorem IsLB.of_blk {w : World} {g n : Nat} {l : List Int} (h : Blk w g 3 (ints l)) (hn : n = l.length) (hb : ∀ x ∈ l, FB x) (hm : l.length ≤ 1000000) : IsLB w.heap.size w (.slice (some ⟨g, 0, none⟩) n n) l := by
  subst hn
  exact ⟨_, _, rfl, Nat.le_refl _, by unfold maxLen; omega, hb, fun _ => ⟨g, 0, rfl, h.lt, fun i hi => by rw [h.cell, Nat.zero_add, ints_at _ _ hi]; rfl⟩⟩

theorem lim_FB {M : Int} {l : List Int} (h : Lim M l) (hM : M ≤ 9223372036854775807) : ∀ x ∈ l, FB x := by
  intro x hx
  obtain ⟨i, hi, rfl⟩ := List.mem_iff_getElem.1 hx
  have := h i
  rw [at_get hi] at this
  exact ⟨by omega, by omega⟩

set_option maxHeartbeats 1000000 in
theorem weightsOf_w (a : Option Addr) (n cap : Nat) (xs : List Int) (w : World) (h : IsL w (.slice a n cap) xs) (hp : Pos xs) :
    Calls Try.prog 69 #[.slice a n cap] w fun e w' => ∃ v, e = .returned v ∧ IsL w' v (wts xs) ∧ Fresh w.heap.size v ∧ Below w.heap.size w w' := by
  have hn : n = xs.length := by obtain ⟨_, _, hv, _⟩ := h; cases hv; rfl
  subst hn
  have h9 := hp.hi
  have hmk := make_ints xs.length (by omega)
  have HH := hide h; clear h
  go_enter Try.func69, Try.ntmps69
  go_wp2_with fail
  refine (spread_w (fun k => k = w.heap.size + 1 ∨ k = w.heap.size) 88 ⟨w.heap.size + 1, 0, none⟩ _ w.heap.size a xs.length cap xs (adder_weights hp (w.heap.size + 1) w.heap.size) _ ?_ ?_ hp ?_ ?_).mono ?_
  · exact IsLB.below (B := w.heap.size) HH.out (((Below.refl _ _).alloc (Nat.le_refl _) _).alloc (by simp) _)
  · simp; omega
  · intro k hk; simp; omega
  · refine ⟨?_, ?_, by omega⟩
    · have := Blk.new (w.alloc (.cells (ints (List.replicate xs.length 0)) 3)) 95 #[.slice (some ⟨w.heap.size, 0, none⟩) (List.replicate xs.length (0 : Int)).length (List.replicate xs.length (0 : Int)).length, .slice none 0 0, .int .i64 0]
      simpa using this
    · exact (Blk.new w 3 (ints (List.replicate xs.length 0))).alloc _
  rintro e w1 ⟨rfl, hst, ho⟩
  have hb := ho.below (B := w.heap.size) (by simp; omega) (fun k hk => by omega)
  have hb2 : Below w.heap.size w w1 := (((Below.refl w.heap.size w).alloc (Nat.le_refl _) _).alloc (by simp) _).trans hb
  have hl : ((cons xs).foldl addW (List.replicate xs.length 0)).length = xs.length := by rw [foldW_len]; simp
  have c0 : w1.cell? ⟨w.heap.size + 1, 0, none⟩ = some (.slice (some ⟨w.heap.size, 0, none⟩) xs.length xs.length) := by
    have := hst.tal.cell 0
    rw [hl] at this; exact this
  have hr : IsL w1 (.slice (some ⟨w.heap.size, 0, none⟩) xs.length xs.length) (wts xs) := IsLB.of_blk hst.row (wts_len xs).symm (lim_FB (wts_lim hp) (by omega)) (by rw [wts_len]; omega)
  have HR := hide hr; clear hr hst ho hb
  go_wp2
  go_ret
  exact ⟨_, rfl, HR.out, (fun k hk => by simp [Value.ownBlock] at hk; omega), hb2⟩
end Go.Proofs.Ytlpoenoijmifdaa
