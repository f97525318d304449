import Derived.Test.YtgbfnonfecpajaaGreatZc04
import Derived.KernelRfl
import Derived.ProofKit
import Derived.OpenShut
import Derived.Lib.SmallJoins
import Derived.Deep.Slices
import Derived.Deep.Strs
set_option linter.unusedVariables false
set_option linter.unusedSimpArgs false
/- Contracts, by the evaluator: routes, the reference's side. -/
namespace Go.Proofs.YtgbfnonfecpajaaGreat
open Go Go.RowKit
namespace Ev
section
variable {X : FuncId → List Value → St → (Value → St → Bool) → Bool}
theorem rCheckRoute_s (n : Nat) (a : Option Addr) (cap : Nat) (rs : List (List Int)) (s : St) (hs : Wf s) (hn : 281474976710656 ≤ n) (hR : RowsE s 7 a rs) : Spec Tryz.prog (tabK tabm) X (n + 200) 10 [.agg ⟨[.slice a rs.length cap]⟩] s (fun v A => v = .int .i64 (if (1 ≤ (rs.length : Int) ∧ (rs.length : Int) ≤ 12) ∧ rtB 0 rs = true then 0 else 61) ∧ A = []) := by
  refine enter bm10_at rfl hs ?_
  unfold bm10
  have hlen := hR.len
  refine r_seq ?_
  refine r_items ?_
  refine i_op (a_box rfl rfl rfl (fun b1 => ?_)) rfl rfl
  refine i_op (a_mov rfl ?_) rfl rfl
  refine i_nil ?_
  refine then_n ?_
  refine r_seq ?_
  refine r_seq ?_
  refine r_items ?_
  refine i_op (a_fa rfl ?_) rfl rfl
  refine i_op (a_ld rfl .here rfl ?_) rfl rfl
  refine i_op (a_lenx rfl hR.spot ?_) rfl rfl
  refine i_op (a_callB rfl rfl (fun s1 h1 => In_s _ _ _ _ s1 h1.wf) (fun h2 => ?_) (fun h2 => ?_)) rfl rfl
  · refine i_op (a_not rfl ?_) rfl rfl
    refine i_nil ?_
    refine then_n ?_
    refine r_cond_f rfl ?_
    refine r_skip ?_
    refine then_n ?_
    refine r_seq ?_
    refine r_seq ?_
    refine r_items ?_
    refine i_op (a_mov rfl ?_) rfl rfl
    refine i_nil ?_
    refine then_n ?_
    refine r_block ?_
    refine r_loop (fun j e A => ∃ (k : Nat), e = [(1, .pointer (some ⟨b1, 0, none⟩)), (3, .int .i64 (k : Int))] ∧ A = [⟨b1, 28, false, [.slice a rs.length cap]⟩] ∧ j = rs.length - k ∧ k ≤ rs.length ∧ rtB 0 rs = rtB (prevTo rs k) (rs.drop k)) 120 0 281474976710656 ?_ (j := _) (env2 := _) (A2 := _) ?_ ?_ ?_ ?_ ⟨0, rfl, rfl, rfl, Nat.zero_le _, rfl⟩
    rotate_left
    · omega
    · omega
    · exact (Less.cons rfl (Less.cons rfl Less.nil))
    · exact List.Sublist.refl _
    rintro n hn j _ _ ⟨k, rfl, rfl, rfl, hk, hi⟩
    refine r_seq ?_
    refine r_seq ?_
    refine r_items ?_
    refine i_op (a_mov rfl ?_) rfl rfl
    refine i_op (a_fa rfl ?_) rfl rfl
    refine i_op (a_ld rfl .here rfl ?_) rfl rfl
    refine i_op (a_lenx rfl hR.spot ?_) rfl rfl
    refine i_op (a_lss rfl rfl (fun h3 => ?_) (fun h3 => ?_)) rfl rfl
    · obtain ⟨b, o, z, f, t, dl, dh, bl, bh, rfl, hr, hat, ht⟩ := hR.row7 (k := k) (by omega)
      have hat2 := hat
      obtain ⟨d0, d1, d2, d3, d4, d5, d6, _⟩ := hat2
      refine i_nil ?_
      refine then_n ?_
      refine r_cond_t rfl ?_
      refine r_skip ?_
      refine then_n ?_
      refine r_seq ?_
      refine r_block ?_
      refine r_seq ?_
      refine r_items ?_
      refine i_op (a_fa rfl ?_) rfl rfl
      refine i_op (a_ld rfl .here rfl ?_) rfl rfl
      refine i_op (a_mov rfl ?_) rfl rfl
      refine i_op (a_ia rfl rfl rfl (by omega) ?_) rfl rfl
      refine i_op (a_ldar rfl (by decide) (by assumption) rfl ?_) rfl rfl
      refine i_op (a_callB rfl rfl (fun s1 h1 => IsLeg_s _ _ _ _ _ _ _ _ s1 h1.wf) (fun h4 => ?_) (fun h4 => ?_)) rfl rfl
      · refine i_op (a_not rfl ?_) rfl rfl
        refine i_op (a_mov rfl ?_) rfl rfl
        refine i_op (a_mov rfl ?_) rfl rfl
        refine i_op (a_gtr rfl rfl (fun h5 => ?_) (fun h5 => ?_)) rfl rfl
        · refine i_op (a_mov rfl ?_) rfl rfl
          refine i_op (a_fa rfl ?_) rfl rfl
          refine i_op (a_ld rfl .here rfl ?_) rfl rfl
          refine i_op (a_mov rfl ?_) rfl rfl
          refine i_op (a_ia rfl rfl rfl (by omega) ?_) rfl rfl
          refine i_op (a_fa rfl ?_) rfl rfl
          refine i_op (a_ldr rfl (by assumption) ?_) rfl rfl
          refine i_op (a_fa rfl ?_) rfl rfl
          refine i_op (a_ld rfl .here rfl ?_) rfl rfl
          refine i_op (a_mov rfl ?_) rfl rfl
          refine i_op (a_sub rfl rfl (by omega) ?_) rfl rfl
          obtain ⟨b', o', z', f', t', dl', dh', bl', bh', he', hr', hat', ht'⟩ := hR.row7 (k := k - 1) (by omega)
          cases he'
          obtain ⟨c0, c1, c2, _⟩ := hat'
          have hp : prevTo rs k = t' := by have := prevTo_succ hr'; rwa [Nat.sub_add_cancel (by omega)] at this
          refine i_op (a_ia (j := k - 1) rfl rfl (by omega) (by omega) ?_) rfl rfl
          refine i_op (a_fa rfl ?_) rfl rfl
          refine i_op (a_ldr rfl (by assumption) ?_) rfl rfl
          refine i_op (a_lss rfl rfl (fun h6 => ?_) (fun h6 => ?_)) rfl rfl
          · refine i_op (a_pick_t rfl rfl rfl ?_) rfl rfl
            refine i_op (a_pick_f rfl rfl rfl ?_) rfl rfl
            refine i_nil ?_
            refine then_n ?_
            refine r_cond_t rfl ?_
            refine r_seq ?_
            refine r_items ?_
            refine i_op (a_mov rfl ?_) rfl rfl
            refine i_nil ?_
            refine then_n ?_
            refine r_ret ?_
            refine block_r ?_
            refine then_r ?_
            refine then_r ?_
            refine block_r ?_
            refine then_r ?_
            refine end1 rfl ⟨congrArg (Value.int .i64) ?_, rfl⟩
            first
              | (rw [if_neg (fun h => by omega)] <;> first | rfl | decide)
              | (rw [if_pos ⟨by omega, rt_end hi (by omega)⟩] <;> first | rfl | decide)
              | (rw [if_neg (fun h => by rw [rt_bad hr hi (by first | exact .inl (by assumption) | exact .inr (by omega))] at h; exact absurd h.2 (by decide))] <;> first | rfl | decide)
          · refine i_op (a_pick_t rfl rfl rfl ?_) rfl rfl
            refine i_op (a_pick_f rfl rfl rfl ?_) rfl rfl
            refine i_nil ?_
            refine then_n ?_
            refine r_cond_f rfl ?_
            refine r_skip ?_
            refine block_n ?_
            refine then_n ?_
            refine r_items ?_
            refine i_op (a_mov rfl ?_) rfl rfl
            refine i_op (a_add rfl rfl (by omega) ?_) rfl rfl
            refine i_op (a_mov rfl ?_) rfl rfl
            refine i_nil ?_
            refine then_n ?_
            exact ⟨rfl, _, _, _, (show rs.length - (k + 1) < rs.length - k by omega), (Less.cons (t := 1) rfl (Less.cons (t := 3) rfl Less.nil)), List.Sublist.refl _, ⟨k + 1, rfl, rfl, rfl, by omega, rt_good hr hi (by assumption) (by omega)⟩⟩
        · have hp : prevTo rs k = 0 := by
            have : k = 0 := by omega
            subst this; rfl
          refine i_op (a_mov rfl ?_) rfl rfl
          refine i_no rfl rfl ?_
          refine i_no rfl rfl ?_
          refine i_no rfl rfl ?_
          refine i_no rfl rfl ?_
          refine i_no rfl rfl ?_
          refine i_no rfl rfl ?_
          refine i_no rfl rfl ?_
          refine i_no rfl rfl ?_
          refine i_no rfl rfl ?_
          refine i_no rfl rfl ?_
          refine i_no rfl rfl ?_
          refine i_no rfl rfl ?_
          refine i_no rfl rfl ?_
          refine i_no rfl rfl ?_
          refine i_op (a_pick_f rfl rfl rfl ?_) rfl rfl
          refine i_op (a_pick_f rfl rfl rfl ?_) rfl rfl
          refine i_nil ?_
          refine then_n ?_
          refine r_cond_f rfl ?_
          refine r_skip ?_
          refine block_n ?_
          refine then_n ?_
          refine r_items ?_
          refine i_op (a_mov rfl ?_) rfl rfl
          refine i_op (a_add rfl rfl (by omega) ?_) rfl rfl
          refine i_op (a_mov rfl ?_) rfl rfl
          refine i_nil ?_
          refine then_n ?_
          exact ⟨rfl, _, _, _, (show rs.length - (k + 1) < rs.length - k by omega), (Less.cons (t := 1) rfl (Less.cons (t := 3) rfl Less.nil)), List.Sublist.refl _, ⟨k + 1, rfl, rfl, rfl, by omega, rt_good hr hi (by assumption) (by omega)⟩⟩
      · refine i_op (a_not rfl ?_) rfl rfl
        refine i_op (a_mov rfl ?_) rfl rfl
        refine i_no rfl rfl ?_
        refine i_no rfl rfl ?_
        refine i_no rfl rfl ?_
        refine i_no rfl rfl ?_
        refine i_no rfl rfl ?_
        refine i_no rfl rfl ?_
        refine i_no rfl rfl ?_
        refine i_no rfl rfl ?_
        refine i_no rfl rfl ?_
        refine i_no rfl rfl ?_
        refine i_no rfl rfl ?_
        refine i_no rfl rfl ?_
        refine i_no rfl rfl ?_
        refine i_no rfl rfl ?_
        refine i_no rfl rfl ?_
        refine i_no rfl rfl ?_
        refine i_no rfl rfl ?_
        refine i_no rfl rfl ?_
        refine i_op (a_pick_t rfl rfl rfl ?_) rfl rfl
        refine i_nil ?_
        refine then_n ?_
        refine r_cond_t rfl ?_
        refine r_seq ?_
        refine r_items ?_
        refine i_op (a_mov rfl ?_) rfl rfl
        refine i_nil ?_
        refine then_n ?_
        refine r_ret ?_
        refine block_r ?_
        refine then_r ?_
        refine then_r ?_
        refine block_r ?_
        refine then_r ?_
        refine end1 rfl ⟨congrArg (Value.int .i64) ?_, rfl⟩
        first
          | (rw [if_neg (fun h => by omega)] <;> first | rfl | decide)
          | (rw [if_pos ⟨by omega, rt_end hi (by omega)⟩] <;> first | rfl | decide)
          | (rw [if_neg (fun h => by rw [rt_bad hr hi (by first | exact .inl (by assumption) | exact .inr (by omega))] at h; exact absurd h.2 (by decide))] <;> first | rfl | decide)
    · refine i_nil ?_
      refine then_n ?_
      refine r_cond_f rfl ?_
      refine r_exit ?_
      refine then_e ?_
      refine then_e ?_
      refine block_hit ?_
      refine then_n ?_
      refine r_seq ?_
      refine r_items ?_
      refine i_op (a_mov rfl ?_) rfl rfl
      refine i_nil ?_
      refine then_n ?_
      refine r_ret ?_
      refine end1 rfl ⟨congrArg (Value.int .i64) ?_, rfl⟩
      first
        | (rw [if_neg (fun h => by omega)] <;> first | rfl | decide)
        | (rw [if_pos ⟨by omega, rt_end hi (by omega)⟩] <;> first | rfl | decide)
        | (rw [if_neg (fun h => by rw [rt_bad hr hi (by first | exact .inl (by assumption) | exact .inr (by omega))] at h; exact absurd h.2 (by decide))] <;> first | rfl | decide)
  · refine i_op (a_not rfl ?_) rfl rfl
    refine i_nil ?_
    refine then_n ?_
    refine r_cond_t rfl ?_
    refine r_seq ?_
    refine r_items ?_
    refine i_op (a_mov rfl ?_) rfl rfl
    refine i_nil ?_
    refine then_n ?_
    refine r_ret ?_
    refine then_r ?_
    refine end1 rfl ⟨congrArg (Value.int .i64) ?_, rfl⟩
    first
      | (rw [if_neg (fun h => by omega)] <;> first | rfl | decide)
      | (rw [if_pos ⟨by omega, rt_end hi (by omega)⟩] <;> first | rfl | decide)
      | (rw [if_neg (fun h => by rw [rt_bad hr hi (by first | exact .inl (by assumption) | exact .inr (by omega))] at h; exact absurd h.2 (by decide))] <;> first | rfl | decide)

end
end Ev
end Go.Proofs.YtgbfnonfecpajaaGreat

/- What is pure, in steps. No program here. -/
namespace Go.Proofs.YtgbfnonfecpajaaGreat.Ev
open Go Go.RowKit
theorem pv_bind {P : Program} {α β : Type} : ∀ (x : Sem α) (f : α → Sem β), pureVal P (x >>= f) = (pureVal P x).bind fun a => pureVal P (f a) := by
  intro x f
  show pureVal P (Sem.bind x f) = _
  induction x with
  | pure a => rfl
  | program k ih => simpa [Sem.bind, pureVal] using ih P
  | mark m k ih => simpa [Sem.bind, pureVal] using ih
  | _ => simp [Sem.bind, pureVal]
theorem pv_pure {P : Program} {α : Type} (a : α) : pureVal P (pure a : Sem α) = some a := rfl
theorem pv_prog {P : Program} : pureVal P (program : Sem Program) = some P := rfl
theorem pv_und {P : Program} {t : TypeId} {d : TypeDesc} (h : P.underlying t = some d) : pureVal P (underlying t) = some d := by
  unfold underlying
  rw [pv_bind, pv_prog]
  show pureVal P (match P.underlying t with | some d => pure d | none => stuck "no such type") = some d
  rw [h]; rfl
theorem eqV_sl {a : Option Addr} {n c : Nat} (h : ∀ b, a = some b → b.spot = none) : eqV (.slice a n c) (.slice a n c) = true := by
  rcases a with _ | ⟨b, o, sp⟩
  · simp [eqV]
  · have : sp = none := h _ rfl
    subst this; simp [eqV]
/-- Structs compared. -/
theorem evBin_agg {P : Program} {t : Nat} {x y : List Value} {r : Bool} (hf : (flatL x && flatL y) = true) (h : pureVal P (Op.equal t (.agg ⟨x⟩) (.agg ⟨y⟩)) = some r) : evBin P .eql t 5 (.agg ⟨x⟩) (.agg ⟨y⟩) = some (.bool r) := by
  have h1 : pureVal P (binOp .eql t (.agg ⟨x⟩) (.agg ⟨y⟩)) = some (.bool r) := by
    show pureVal P (Op.equal t (.agg ⟨x⟩) (.agg ⟨y⟩) >>= fun b => (pure (Value.bool b) : Sem Value)) = _
    rw [pv_bind, h]; rfl
  show evBin2 P .eql t 5 (.agg ⟨x⟩) (.agg ⟨y⟩) = _
  unfold evBin2
  have h2 : (flat (.agg ⟨x⟩) && flat (.agg ⟨y⟩) && noGuard 5 (.agg ⟨x⟩)) = true := by
    simp only [flat, flatA, noGuard]
    simp only [Bool.and_eq_true] at hf ⊢
    exact ⟨hf, rfl⟩
  rw [h2, h1]; rfl
theorem evBin_aggn {P : Program} {t : Nat} {x y : List Value} {r : Bool} (hf : (flatL x && flatL y) = true) (h : pureVal P (Op.equal t (.agg ⟨x⟩) (.agg ⟨y⟩)) = some r) : evBin P .neq t 5 (.agg ⟨x⟩) (.agg ⟨y⟩) = some (.bool !r) := by
  have h1 : pureVal P (binOp .neq t (.agg ⟨x⟩) (.agg ⟨y⟩)) = some (.bool !r) := by
    show pureVal P (Op.equal t (.agg ⟨x⟩) (.agg ⟨y⟩) >>= fun b => (pure (Value.bool !b) : Sem Value)) = _
    rw [pv_bind, h]; rfl
  show evBin2 P .neq t 5 (.agg ⟨x⟩) (.agg ⟨y⟩) = _
  unfold evBin2
  have h2 : (flat (.agg ⟨x⟩) && flat (.agg ⟨y⟩) && noGuard 5 (.agg ⟨x⟩)) = true := by
    simp only [flat, flatA, noGuard]
    simp only [Bool.and_eq_true] at hf ⊢
    exact ⟨hf, rfl⟩
  rw [h2, h1]; rfl
theorem a_eqS {P : Program} {C : Nat → (CF → Bool) → Bool} {X : FuncId → List Value → St → (Value → St → Bool) → Bool} {s0 : St} {n nt : Nat} {env : List (Nat × Value)} {A : List Ob} {R : Value → List Ob → Prop} {t : Nat} {x y : Ev.X} {u v : List Value} {r : Bool}
    (hx : xv env x = some (.agg ⟨u⟩)) (hy : xv env y = some (.agg ⟨v⟩)) (h : pureVal P (Op.equal t (.agg ⟨u⟩) (.agg ⟨v⟩)) = some r ∧ (flatL u && flatL v) = true) (h1 : r = true → R (.bool true) A) (h2 : r = false → R (.bool false) A) : OpA P C X s0 n nt (.bin .eql t 5 x y) env A R := by
  refine a_bin hx hy (evBin_agg h.2 h.1) ?_
  cases r with
  | true => exact h1 rfl
  | false => exact h2 rfl
theorem end1A {s0 : St} {env : List (Nat × Value)} {A A' : List Ob} {t : Nat} {Q : Value → List Ob → Prop} {v : Value} (ht : look env t = some v) (hs : A'.Sublist A) (hq : Q v A') : EndA s0 [.tmp t] Q .ret env [] A := ⟨rfl, [v], A', ⟨v, [], rfl, ht, rfl⟩, hs, hq⟩
theorem end2A {s0 : St} {env : List (Nat × Value)} {A A' : List Ob} {t u : Nat} {Q : Value → List Ob → Prop} {v w : Value} (ht : look env t = some v) (hu : look env u = some w) (hs : A'.Sublist A) (hq : Q (.tuple #[v, w]) A') : EndA s0 [.tmp t, .tmp u] Q .ret env [] A := ⟨rfl, [v, w], A', ⟨v, [w], rfl, ht, w, [], rfl, hu, rfl⟩, hs, hq⟩
theorem segL_all {l : List Value} : segL l 0 l.length = some l := by
  have key : ∀ (m : List Value) (i : Nat), (∀ j, j < m.length → l[i + j]? = m[j]?) → segL l i m.length = some m := by
    intro m
    induction m with
    | nil => intro i _; rfl
    | cons v m ih =>
      intro i h
      have h0 : l[i]? = some v := by simpa using h 0 (by simp)
      have h1 := ih (i + 1) (fun j hj => by have := h (j + 1) (by simp; omega); rw [List.getElem?_cons_succ] at this; rw [← this]; congr 1; omega)
      simp only [List.length_cons, segL, h0, h1]
  exact key l 0 (fun j _ => by rw [Nat.zero_add])
theorem Src.own {s0 : St} {A : List Ob} {size n b e : Nat} {op : Bool} {l : List Value} {c : Nat} (h : Own A b e op l) (hl : Nat.beq l.length (n * size) = true) (h0 : l ≠ []) : Src s0 A size n l (.slice (some ⟨b, 0, none⟩) n c) :=
  ⟨b, 0, c, rfl, by simpa using hl, h0, .inl ⟨e, op, l, h, segL_all⟩⟩
end Go.Proofs.YtgbfnonfecpajaaGreat.Ev

/- A world as memory that is only read: whatever came in. No program here. -/
namespace Go.Proofs.YtgbfnonfecpajaaGreat.Ev
open Go Go.RowKit
noncomputable section

def isCells : Go.Obj → Bool
  | .cells _ _ _ => true
  | _ => false
def wmp (W : World) : Mp := fun i => match W.heap[i]? with
  | some o => if isCells o then some (i, 0) else none
  | none => none
open Classical in
def romOf (W : World) : Go.Obj → CObj
  | .cells cs _ _ => .rom (fun j => match cs[j]? with | some v => if VR (wmp W) v v ∧ oneCell v = true then some v else none | none => none)
  | _ => .dead
def wst (W : World) : St := ⟨BT.ofList (W.heap.toList.map (romOf W)), W.heap.size⟩
theorem ofList_full {α : Type} (l : List α) : Full (BT.ofList l) l.length := by
  have := full_adds (l := l) (t := (.leaf : BT α)) (n := 0) (by simp [Full])
  rw [Nat.zero_add] at this
  exact this
theorem ofList_at {α : Type} {l : List α} {i : Nat} {v : α} (h : l[i]? = some v) : (BT.ofList l).get i = some v := by
  have hi : i < l.length := (List.getElem?_eq_some_iff.1 h).1
  obtain ⟨u, hu⟩ := Option.isSome_iff_exists.1 ((ofList_full l).some i hi)
  have := ofList_get hu
  rw [h] at this; cases this; exact hu
theorem wst_wf (W : World) : Wf (wst W) := by
  have := ofList_full (W.heap.toList.map (romOf W))
  simpa [wst, Wf] using this
theorem wst_at {W : World} {b : Nat} {o : Go.Obj} (h : W.heap[b]? = some o) : (wst W).h.get b = some (romOf W o) := by
  refine ofList_at ?_
  rw [List.getElem?_map]
  have : W.heap.toList[b]? = some o := by simpa using h
  rw [this]; rfl
theorem wmp_inv {W : World} {i x y : Nat} (h : wmp W i = some (x, y)) : x = i ∧ ∃ cs e fr, W.heap[i]? = some (.cells cs e fr) := by
  unfold wmp at h
  split at h
  · rename_i o ho
    cases o with
    | cells cs e fr => simp [isCells] at h; exact ⟨h.1.symm, cs, e, fr, ho⟩
    | _ => simp [isCells] at h
  · cases h
theorem wmp_of {W : World} {i : Nat} {cs : Array Value} {e : Nat} {fr : Nat × Nat} (h : W.heap[i]? = some (.cells cs e fr)) : wmp W i = some (i, 0) := by
  unfold wmp; rw [h]; rfl
theorem emb_world (P : Program) (W : World) : Emb P (fun _ => none) W.heap.size (wmp W) (wst W) W := by
  refine ⟨fun i x y hi => ?_, fun i p hi => ?_, fun i x y o hi ho => ?_, fun i j x y y' hi hj hij hB => ?_, Nat.le_refl _, fun i o h => by cases h⟩
  · obtain ⟨rfl, cs, e, fr, h⟩ := wmp_inv hi
    exact ⟨.inr ⟨_, wst_at h⟩, (Array.getElem?_eq_some_iff.1 h).1⟩
  · obtain ⟨x, y⟩ := p
    obtain ⟨_, cs, e, fr, h⟩ := wmp_inv hi
    exact (Array.getElem?_eq_some_iff.1 h).1
  · obtain ⟨rfl, cs, e, fr, h⟩ := wmp_inv hi
    have h1 := wst_at h
    rw [ho] at h1
    have h2 : o = romOf W (.cells cs e fr) := Option.some.inj h1
    subst h2
    refine ⟨_, h, cs, e, fr, rfl, fun j v hj => ?_⟩
    dsimp only at hj
    split at hj
    · rename_i u hu
      split at hj
      · rename_i hc
        cases hj
        exact ⟨hc.2, _, hu, hc.1⟩
      · cases hj
    · cases hj
  · obtain ⟨rfl, cs, e, fr, h⟩ := wmp_inv hi
    have := (Array.getElem?_eq_some_iff.1 h).1
    omega
theorem at_world {W : World} {b o : Nat} {v : Value} (h : W.cell? ⟨b, o, none⟩ = some v) (hv : VR (wmp W) v v) (h1 : oneCell v = true) : At (wst W) b o v := by
  have hb : ∃ cs e fr, W.heap[b]? = some (.cells cs e fr) ∧ cs[o]? = some v := by
    unfold World.cell? at h
    dsimp only at h
    split at h
    · rename_i cs e fr hh; exact ⟨cs, e, fr, by first | exact hh | exact hh.1, h⟩
    · cases h
  obtain ⟨cs, e, fr, h2, h3⟩ := hb
  refine ⟨_, .inr (wst_at h2), ?_⟩
  simp [h3, hv, h1]
theorem Emb.below {P : Program} {K : Kp} {B : Nat} {m : Mp} {s : St} {w w' : World} (E : Emb P K B m s w) (h : Below w.heap.size w w') : Emb P K B m s w' := by
  have hs : w.heap.size ≤ w'.heap.size := h.size
  refine ⟨fun i x y hi => ⟨(E.low i x y hi).1, Nat.lt_of_lt_of_le (E.low i x y hi).2 hs⟩, E.old, fun i x y o hi ho => ?_, E.inj, Nat.le_trans E.base hs, E.kept⟩
  obtain ⟨o', h1, h2⟩ := E.obj i x y o hi ho
  exact ⟨o', (h.block x (E.low i x y hi).2).trans h1, h2⟩

/-- One call that is known: it needs nothing, leaves all as it was, and hands back true. -/
def knownX (g : Nat) : FuncId → List Value → St → (Value → St → Bool) → Bool := fun f vs s k => Nat.beq f g && (match vs with | [] => true | _ => false) && k (.bool true) s
theorem known_ok {P : Program} {g : Nat} {c : CF} (hc : compF P g = some c) (h : ∀ w, Calls P g #[] w fun e w' => e = .returned (.bool true) ∧ Below w.heap.size w w') : KnownOk P (knownX g) := by
  intro K B f vs s k hk m w us E hv
  unfold knownX at hk
  simp only [Bool.and_eq_true] at hk
  obtain ⟨⟨h1, h2⟩, h3⟩ := hk
  have hf : f = g := by simpa using h1
  subst hf
  cases vs with
  | cons v l => cases h2
  | nil =>
    have : us = [] := by simpa only [LR] using hv
    subst this
    obtain ⟨fn, cd, r, e1, e2, e3, e4, _⟩ := compF_inv hc
    refine ⟨fun w => ?_, CallsIn.mono ((callsIn_wide (n := 0)).2 (h w)) (fun e w' he => ?_)⟩
    · have h4' : ¬ fn.name = "runtime.NumGoroutine" := by simpa using e4
      simp [callFunc, e1, e2, h4']
    · obtain ⟨rfl, hb⟩ := he
      exact ⟨.bool true, s, m, h3, Mp.le_refl m, E.below hb, hb.mono E.base, by simp only [VR]⟩
theorem known_s {P : Program} {C : Nat → (CF → Bool) → Bool} {g : Nat} (n : Nat) (s : St) (hs : Wf s) : Spec P C (knownX g) n g [] s (fun v A => v = .bool true ∧ A = []) := by
  intro k hk
  have h1 : knownX g g [] s k = true := by
    unfold knownX
    rw [hk _ s ⟨[], Hld.start hs, rfl, rfl⟩, show Nat.beq g g = true from by rw [Nat.beq_eq]]; rfl
  cases n with
  | zero => exact h1
  | succ n =>
    show (knownX g g [] s k || _) = true
    rw [h1]; rfl
/-- What the evaluator says of a call whose memory is the world itself, the program does. -/
theorem law_open {P : Program} {t : BT (Option CF)} (h : Holds P t 0 1) {X : FuncId → List Value → St → (Value → St → Bool) → Bool} (hX : KnownOk P X) {n : Nat} {f : FuncId} {vs us : List Value} {W : World} (hs : Spec P (tabK t) X n f vs (wst W) (fun v A => v = .bool true ∧ A = [])) (hv : LR (wmp W) vs us) :
    Calls P f ⟨us⟩ W (fun e w' => e = .returned (.bool true) ∧ Below W.heap.size W w') := by
  refine Calls.mono (open_ok h hX (k := fun v _ => trueK v) (hs _ (fun v s' hq => by obtain ⟨A, _, rfl, _⟩ := hq; rfl)) (emb_world P W) hv) (fun e w' he => ?_)
  obtain ⟨u, rfl, h1, v, s', m', h2, _, _, h3⟩ := he
  obtain ⟨b, rfl, h4⟩ := onBool_inv (k := fun b => b) h2
  have hb : b = true := h4
  subst hb
  have : u = .bool true := by simpa only [VR] using h3
  exact ⟨by rw [this], h1⟩

/-! What the row lets in stands for itself. -/
theorem VR.int {m : Mp} (k : IntKind) (n : Int) : VR m (.int k n) (.int k n) := by simp only [VR]
theorem VR.slice0 {m : Mp} : VR m (.slice none 0 0) (.slice none 0 0) := by simp only [VR]; exact ⟨by decide, trivial⟩
theorem VR.slice1 {W : World} {b o n c : Nat} {cs : Array Value} {e : Nat} {fr : Nat × Nat} (h : W.heap[b]? = some (.cells cs e fr)) (hc : c < OPEN) : VR (wmp W) (.slice (some ⟨b, o, none⟩) n c) (.slice (some ⟨b, o, none⟩) n c) := by
  simp only [VR]
  refine ⟨trivial, ?_⟩
  rw [if_pos hc]
  exact ⟨b, 0, wmp_of h, rfl⟩
theorem VR.agg {m : Mp} {l l' : List Value} (h : LR m l l') : VR m (.agg ⟨l⟩) (.agg ⟨l'⟩) := by
  simp only [VR, AR]
  exact ⟨_, rfl, l', rfl, h⟩
theorem LR.nil {m : Mp} : LR m [] [] := by simp only [LR]
theorem LR.cons {m : Mp} {v v' : Value} {l l' : List Value} (h : VR m v v') (hl : LR m l l') : LR m (v :: l) (v' :: l') := by
  simp only [LR]
  exact ⟨v', l', rfl, h, hl⟩
/-- A slice that came in: nil, or in a row of cells, its cap an int. -/
def NiceS (W : World) (a : Option Addr) (n c : Nat) : Prop := (a = none ∧ n = 0 ∧ c = 0) ∨ ∃ b o cs e fr, a = some ⟨b, o, none⟩ ∧ W.heap[b]? = some (.cells cs e fr) ∧ c < OPEN
theorem NiceS.vr {W : World} {a : Option Addr} {n c : Nat} (h : NiceS W a n c) : VR (wmp W) (.slice a n c) (.slice a n c) := by
  rcases h with ⟨rfl, rfl, rfl⟩ | ⟨b, o, cs, e, fr, rfl, h, hc⟩
  · exact VR.slice0
  · exact VR.slice1 h hc
theorem NiceS.spot {W : World} {a : Option Addr} {n c : Nat} (h : NiceS W a n c) : ∀ b, a = some b → b.spot = none := by
  rcases h with ⟨rfl, rfl, rfl⟩ | ⟨b, o, cs, e, fr, rfl, h, hc⟩
  · intro b hb; cases hb
  · intro b hb; cases hb; rfl
theorem cell_niceS {P : Program} {W : World} {r : Reach} {b0 : Nat} {t e : TypeId} {v : Value} (ht : P.underlying t = some (.slice e)) (h : Cell.okWide P W r b0 t v) : ∃ a n c, v = .slice a n c ∧ NiceS W a n c := by
  simp only [Cell.okWide, ht] at h
  unfold Cell.ok at h
  rw [ht] at h
  split at h
  all_goals first
    | exact absurd h id
    | (rename_i h1; cases h1; done)
    | exact ⟨_, _, _, rfl, .inl ⟨rfl, rfl, rfl⟩⟩
    | skip
  all_goals first
    | (rename_i a len cap _; obtain ⟨h1, h2, _, hs, row, cells, h3, _⟩ := h
       refine ⟨_, _, _, rfl, .inr ?_⟩
       obtain ⟨b, o, spot⟩ := a
       have hs' : spot = none := hs
       subst hs'
       unfold World.shape? at h3
       split at h3
       · rename_i cs e' fr hh
         exact ⟨b, o, _, _, _, rfl, hh, by simp [IntKind.max, IntKind.signed, IntKind.bits] at h2; unfold OPEN; omega⟩
       · cases h3)
    | simp_all
end
end Go.Proofs.YtgbfnonfecpajaaGreat.Ev

/- What the row's arguments are, for the evaluator: rows of structs of numbers. No program here. -/
namespace Go.Proofs.YtgbfnonfecpajaaGreat.Ev
open Go Go.RowKit Go.ChangeShapes Go.WideShapes Go.ChangeAt Go.Joins
set_option linter.unusedVariables false
noncomputable section

def I64 (z : Int) : Prop := -9223372036854775808 ≤ z ∧ z < 9223372036854775808
theorem wf_I64 {n : Int} (h : (Lit.int .i64 n).wf = true) : I64 n := by
  simp [Lit.wf, IntKind.min, IntKind.max, IntKind.signed, IntKind.bits] at h
  unfold I64; omega
theorem lt_of_cell2 {w : World} {p : Addr} {v : Value} (h : w.cell? p = some v) : p.block < w.heap.size := by
  rcases Nat.lt_or_ge p.block w.heap.size with hlt | hge
  · exact hlt
  · unfold World.cell? at h; rw [Array.getElem?_eq_none hge] at h; simp at h
theorem weights_at2 {H : Type} {P : Program} : ∀ {ts : List TypeId} {ds : List (DataW H)} (_ : (DataW.weightsEach P ts ds).all (· ≤ reachBytes) = true) {j : Nat} {t : TypeId} {d : DataW H} (_ : ts[j]? = some t) (_ : ds[j]? = some d), ∀ x ∈ DataW.weights P t d, x ≤ reachBytes := by
  intro ts ds h j t d ht hd x hx
  have := List.all_eq_true.1 h x (DataW.weights_mem_each ht hd x hx)
  simpa using this
theorem add_flat2 (b o k : Nat) : (⟨b, o, none⟩ : Addr).add k = ⟨b, o + k, none⟩ := by
  unfold Addr.add
  by_cases h : k = 0
  · subst h; simp
  · simp [h]
/-- Cells of a type are w numbers. -/
def IntCells (H : Type) (P : Program) (enc : TypeId × Value → H) (W : World) (e w : Nat) : Prop :=
  ∀ {base fuel : Nat} {sp : Nat → Bool} {held : Bool} {cs : List Value} {x : DataW H × List MemPlace}, DataW.trod enc P W base sp held fuel e cs = some x → ∃ l : List Int, cs = l.map (.int .i64) ∧ l.length = w ∧ ∀ z ∈ l, I64 z
theorem intCells_int {H : Type} {P : Program} {enc : TypeId × Value → H} {W : World} {t : Nat} (ht : P.underlying t = some (.int .i64)) : IntCells H P enc W t 1 := by
  intro base fuel sp held cs x h
  obtain ⟨z, e, _, w⟩ := DataW.trod_int ht h
  exact ⟨[z], by simpa using e, rfl, by intro y hy; rw [List.mem_singleton.1 hy]; exact wf_I64 w⟩
/-- A struct whose fields are such, one behind the other. -/
theorem intCells_struct {H : Type} {P : Program} {enc : TypeId × Value → H} {W : World} {t : Nat} {fs : Array Field} {ws : List Nat} (ht : P.underlying t = some (.struct fs)) (hn : P.cellsOf t = ws.sum) (hf : ∀ i f, fs[i]? = some f → ∃ w, ws[i]? = some w ∧ P.cellsOf f.type = w ∧ f.offset = (ws.take i).sum ∧ IntCells H P enc W f.type w) (hl : fs.size = ws.length) : IntCells H P enc W t ws.sum := by
  intro base fuel sp held cs x h
  obtain ⟨xs, n, _, rfl, hcl, hlen, hfs⟩ := DataW.trod_struct ht h
  rw [hn] at hcl
  have key : ∀ (k : Nat), k ≤ ws.length → ∃ l : List Int, cs.take (ws.take k).sum = l.map (.int .i64) ∧ l.length = (ws.take k).sum ∧ ∀ z ∈ l, I64 z := by
    intro k
    induction k with
    | zero => intro _; exact ⟨[], by simp, rfl, by simp⟩
    | succ k ih =>
      intro hk
      obtain ⟨l, h1, h2, h3⟩ := ih (by omega)
      have hkf : k < fs.size := by omega
      obtain ⟨w, e1, e2, e3, e4⟩ := hf k fs[k] (Array.getElem?_eq_getElem hkf)
      have hx : ∃ y, xs[k]? = some y := ⟨xs[k]'(by rw [hlen]; simpa using hkf), List.getElem?_eq_getElem _⟩
      obtain ⟨y, hy⟩ := hx
      have h4 := hfs k fs[k] (by simp)
      have h4' : DataW.trod enc P W base sp held n fs[k].type ((cs.drop fs[k].offset).take (P.cellsOf fs[k].type)) = some y := by
        first
          | (obtain ⟨y', h5, h6⟩ := h4; rw [hy] at h5; cases h5; exact h6)
          | (rw [h4]; exact hy)
          | (rw [hy] at h4; exact h4)
      obtain ⟨l', g1, g2, g3⟩ := e4 h4'
      rw [e2, e3] at g1
      have hsum : (ws.take (k + 1)).sum = (ws.take k).sum + w := by
        rw [List.take_add_one, e1]; simp
      refine ⟨l ++ l', ?_, by rw [List.length_append, h2, g2, hsum], ?_⟩
      · rw [hsum, List.take_add, h1, g1, List.map_append]
      · intro z hz
        rcases List.mem_append.1 hz with hz | hz
        · exact h3 z hz
        · exact g3 z hz
  obtain ⟨l, h1, h2, h3⟩ := key ws.length (Nat.le_refl _)
  rw [List.take_length] at h1 h2
  rw [List.take_of_length_le (by omega)] at h1
  exact ⟨l, h1, h2, h3⟩
theorem ats_world {W : World} {b : Nat} : ∀ {r : List Int} {o : Nat}, (∀ j, j < r.length → W.cell? ⟨b, o + j, none⟩ = (r.map (Value.int .i64))[j]?) → Ats (wst W) b o (r.map (Value.int .i64))
  | [], _, _ => trivial
  | z :: r, o, h => ⟨at_world (by simpa using h 0 (by simp)) (VR.int _ _) rfl, ats_world (fun j hj => by have := h (j + 1) (by simp; omega); simpa [Nat.add_assoc, Nat.add_comm 1 j] using this)⟩
/-- A slice of structs of numbers that came in. -/
theorem rowsW {H : Type} {P : Program} {enc : TypeId × Value → H} {W : World} {t e w bytes : Nat} (ht : P.underlying t = some (.slice e)) (hc : P.cellsOf e = w) (hw : 0 < w) (hby : P.bytesOf e = bytes) (hb : 2 ≤ bytes) (hi : IntCells H P enc W e w) {a : Option Addr} {n cap fuel : Nat} (hv : NiceS W a n cap) {d : DataW H} {p : List MemPlace}
    (hf : DataW.trod enc P W 0 (fun _ => true) true fuel t [.slice a n cap] = some (d, p)) (hz : ∀ x ∈ DataW.weights P t d, x ≤ reachBytes) : ∃ rs : List (List Int), rs.length = n ∧ RowsE (wst W) w a rs ∧ rs.length * bytes ≤ 140737488355328 := by
  rcases Go.Deep.open_slice ht hf with ⟨hcs, _⟩ | ⟨a', l, c, m, fu, D, Pl, hcs, _, hl, hm, hmm, hd, hel⟩
  · simp at hcs
    obtain ⟨rfl, rfl, rfl⟩ := hcs
    exact ⟨[], rfl, ⟨hv.spot, fun h => absurd rfl h, fun _ _ h => (by cases h), by simp, by simp, by simp⟩, by simp⟩
  · simp at hcs
    obtain ⟨rfl, rfl, rfl⟩ := hcs
    have hml : n ≤ m := by rw [hmm]; split <;> omega
    have hch : ∀ i, ∃ y : List Int, i < n → (y.length = w ∧ ∀ z ∈ y, I64 z) ∧ ∀ r, r < w → W.cell? ((a'.add (i * w)).add r) = (y.map (Value.int .i64))[r]? := by
      intro i
      by_cases hin : i < n
      · obtain ⟨cs', h1, h2⟩ := hel i (by omega)
        obtain ⟨y, rfl, hy, hz⟩ := hi h2
        rw [hc] at h1
        obtain ⟨_, _, h3⟩ := World.cells?_some h1
        exact ⟨y, fun _ => ⟨⟨hy, hz⟩, h3⟩⟩
      · exact ⟨[], fun h => absurd h hin⟩
    obtain ⟨Y, hY⟩ : ∃ Y : Nat → List Int, ∀ i, i < n → ((Y i).length = w ∧ ∀ z ∈ Y i, I64 z) ∧ ∀ r, r < w → W.cell? ((a'.add (i * w)).add r) = ((Y i).map (Value.int .i64))[r]? := ⟨fun i => (hch i).choose, fun i => (hch i).choose_spec⟩
    have hsp := hv.spot a' rfl
    obtain ⟨b, off, spot⟩ := a'
    have hsp' : spot = none := hsp
    subst hsp'
    have hbytes : n * bytes ≤ 140737488355328 := by
      simp only [Prod.mk.injEq] at hd
      obtain ⟨rfl, _⟩ := hd
      have := hz _ (by simp only [DataW.weights, ht]; exact List.mem_cons_self)
      rw [hby] at this
      simp only [List.length_map, List.length_range, reachBytes] at this
      have e1 : n + (m - n) = m := by omega
      rw [e1] at this
      exact Nat.le_trans (Nat.mul_le_mul_right _ hml) (by omega)
    refine ⟨(List.range n).map Y, by simp, ⟨hv.spot, fun _ => ⟨b, off, rfl⟩, ?_, ?_, ?_, ?_⟩, by simpa using hbytes⟩
    · intro b' o' hbo i r hr
      cases hbo
      rw [List.getElem?_map] at hr
      obtain ⟨i', h1, rfl⟩ := Option.map_eq_some_iff.1 hr
      obtain ⟨h2, h3⟩ := List.getElem?_eq_some_iff.1 h1
      simp at h2 h3
      subst h3
      refine ats_world (fun j hj => ?_)
      have := (hY i h2).2 j (by rw [← (hY i h2).1.1]; exact hj)
      rw [add_flat2, add_flat2] at this
      exact this
    · intro r hr
      obtain ⟨i, hi', rfl⟩ := List.mem_map.1 hr
      exact (hY i (List.mem_range.1 hi')).1.1
    · intro r hr x hx
      obtain ⟨i, hi', rfl⟩ := List.mem_map.1 hr
      exact (hY i (List.mem_range.1 hi')).1.2 x hx
    · simp
      have : n * 2 ≤ n * bytes := Nat.mul_le_mul_left _ hb
      omega
end
end Go.Proofs.YtgbfnonfecpajaaGreat.Ev
