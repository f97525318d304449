import Derived.Test.YtfhfjcfhanmbiaaGreatZb09
set_option linter.unusedVariables false
set_option linter.unusedSimpArgs false
/- Contracts: the weights of a quantity. -/
namespace Go.Proofs.YtfhfjcfhanmbiaaGreat
open Go Go.RowKit
namespace Ev
theorem i_fa {P : Program} {C : Nat → (CF → Bool) → Bool} {X : FuncId → List Value → St → (Value → St → Bool) → Bool} {s0 : St} {n nt : Nat} {env : List (Nat × Value)} {A : List Ob} {Q : List (Nat × Value) → List Ob → Prop} {g : Option (Nat × Bool)} {d : Nat} {x : Ev.X} {l : List Item} {b o off : Nat} (hx : xv env x = some (.pointer (some ⟨b, o, none⟩))) (hg : wants env g = some true) (hd : okD (some d) nt = true) (h : ItA P C X s0 n nt l ((d, .pointer (some ⟨b, o + off, none⟩)) :: env) A Q) : ItA P C X s0 n nt (⟨g, some d, .fa x off⟩ :: l) env A Q := i_op (a_fa hx h) hg hd
theorem i_ld {P : Program} {C : Nat → (CF → Bool) → Bool} {X : FuncId → List Value → St → (Value → St → Bool) → Bool} {s0 : St} {n nt : Nat} {env : List (Nat × Value)} {A : List Ob} {Q : List (Nat × Value) → List Ob → Prop} {g : Option (Nat × Bool)} {d : Nat} {a : Ev.X} {l : List Item} {b off e : Nat} {op : Bool} {L : List Value} {v : Value} (ha : xv env a = some (.pointer (some ⟨b, off, none⟩))) (ho : Own A b e op L) (hv : L[off]? = some v) (hg : wants env g = some true) (hd : okD (some d) nt = true) (h : ItA P C X s0 n nt l ((d, v) :: env) A Q) : ItA P C X s0 n nt (⟨g, some d, .ld a none⟩ :: l) env A Q := i_op (a_ld ha ho hv h) hg hd
def gpf (al up : List Int) (n t : Nat) : Int := al.getD (t / n) 0 * up.getD (t % n) 0
def gpre (al up : List Int) (n t : Nat) : List Int := 0 :: (List.range t).map (gpf al up n)
theorem gpre_len {al up : List Int} {n t : Nat} : (gpre al up n t).length = t + 1 := by simp [gpre]
theorem gpre_at {al up : List Int} {n i y : Nat} (hy : y < n) : gpf al up n (n * i + y) = al.getD i 0 * up.getD y 0 := by
 unfold gpf
 rw [Nat.mul_add_div (by omega), Nat.mul_add_mod, Nat.div_eq_of_lt hy, Nat.mod_eq_of_lt hy, Nat.add_zero]
theorem gpre_add {al up : List Int} {n i y : Nat} (hy : y < n) : ints (gpre al up n (n * i + y)) ++ [.int .i64 (al.getD i 0 * up.getD y 0)] = ints (gpre al up n (n * i + (y + 1))) := by
 rw [← gpre_at (al := al) (up := up) hy]
 show _ = ints (gpre al up n (n * i + y + 1))
 unfold gpre ints
 rw [List.range_succ]; simp
theorem getD_out {l : List Int} {j : Nat} (h : l.length ≤ j) : l.getD j 0 = 0 := by
 rw [List.getD_eq_getElem?_getD, List.getElem?_eq_none h]; rfl
theorem gpre_add0 {al up : List Int} {n i y : Nat} (hy : y < n) (h : al.length ≤ i ∨ up.length ≤ y) : ints (gpre al up n (n * i + y)) ++ [.int .i64 0] = ints (gpre al up n (n * i + (y + 1))) := by
 rw [← gpre_add hy]
 rcases h with h | h
 ·rw [getD_out h, Int.zero_mul]
 ·rw [getD_out h, Int.mul_zero]
def onlyL (x : Nat) : List Int := (List.replicate (x + 1) 0).set x 1
theorem onlyL_len {x : Nat} : (onlyL x).length = x + 1 := by simp [onlyL]
theorem only_bd (x : Nat) : Bd (onlyL x) 200000000 := bd_set (fun j => by
 rw [List.getD_eq_getElem?_getD, List.getElem?_replicate]
 split <;> simp) (by decide)
theorem findL_none {i : Int} {a b c d : Value} (h : ¬ i = 1 ∧ ¬ i = 2 ∧ ¬ i = 3 ∧ ¬ i = 4) : findL i [(1, a), (2, b), (3, c), (4, d)] = none := by
 have h1 : ((1 : Int) == i) = false := by simp; omega
 have h2 : ((2 : Int) == i) = false := by simp; omega
 have h3 : ((3 : Int) == i) = false := by simp; omega
 have h4 : ((4 : Int) == i) = false := by simp; omega
 rw [findL_eq]
 simp only [List.find?_cons, h1, h2, h3, h4, List.find?_nil, Option.map_none]
def FT (op : Bool) (cp t : Nat) : Prop := (op = true ∧ cp = OPEN) ∨ (op = false ∧ cp = 1 ∧ t = 0)
theorem tight_of {op : Bool} {cp t : Nat} (h : FT op cp t) : Tight op (t + 1) cp := by
 rcases h with h | ⟨h1, h2, rfl⟩
 ·exact .inl h
 ·exact .inr ⟨h1, h2, by decide⟩
theorem ft_pos {op : Bool} {cp t : Nat} (h : FT op cp t) (h0 : 0 < t) : op = true ∧ cp = OPEN := by
 rcases h with h | ⟨_, _, h⟩
 ·exact h
 ·omega
def resA (wk : Int) (ws : Nat) (l1 : List Int) : List Int := if wk = 1 ∨ wk = 2 then wts l1 else onlyL ws
def resU (wk : Int) (ww : Nat) (l2 : List Int) : List Int := if wk = 1 then wts (l2.take (ww + 1)) else if wk = 3 then wts l2 else onlyL ww
def resD (wk : Int) : Int := if wk = 1 then 648000000 else if wk = 4 then 1 else 180000
def resW (wk ws ww : Int) (l1 l2 : List Int) : List Int := gpre (resA wk ws.toNat l1) (resU wk ww.toNat l2) l2.length (l2.length * l1.length)
section
variable {X : FuncId → List Value → St → (Value → St → Bool) → Bool}
theorem oweightsOf_s (n : Nat) (d r al up : Int) (a1 a2 : Option Addr) (c1 c2 : Nat) (l1 l2 : List Int) (wk ws ww : Int) (s : St) (hs : Wf s) (hn : 2251799813685248 ≤ n) (hl1 : IntsE s a1 l1) (hl2 : IntsE s a2 l2) (hp1 : Plc 9 100000 l1) (hp2 : Plc 9 100000 l2) (hc2 : c2 < OPEN) (hlc : l2.length ≤ c2) : Spec Tryz.prog (tabK tabw) X (n + 2500) 53 [.agg ⟨[.int .i64 d, .int .i64 r, .slice a1 l1.length c1, .slice a2 l2.length c2, .int .i64 al, .int .i64 up]⟩, .agg ⟨[.int .i64 wk, .int .i64 ws, .int .i64 ww]⟩] s (fun v A => (((wk = 1 ∧ ws = 0 ∧ (0 ≤ ww ∧ ww ≤ (l2.length : Int) - 1) ∧ 0 < ww) ∨ (wk = 2 ∧ ws = 0 ∧ (0 ≤ ww ∧ ww ≤ (l2.length : Int) - 1)) ∨ (wk = 3 ∧ (0 ≤ ws ∧ ws ≤ (l1.length : Int) - 1) ∧ ww = 0) ∨ (wk = 4 ∧ (0 ≤ ws ∧ ws ≤ (l1.length : Int) - 1) ∧ (0 ≤ ww ∧ ww ≤ (l2.length : Int) - 1))) ∧ ∃ b, v = .tuple #[.slice (some ⟨b, 0, none⟩) (l2.length * l1.length + 1) OPEN, .int .i64 (resD wk), .int .i64 0] ∧ A = [.row b 3 true (ints (resW wk ws ww l1 l2))]) ∨ (¬ ((wk = 1 ∧ ws = 0 ∧ (0 ≤ ww ∧ ww ≤ (l2.length : Int) - 1) ∧ 0 < ww) ∨ (wk = 2 ∧ ws = 0 ∧ (0 ≤ ww ∧ ww ≤ (l2.length : Int) - 1)) ∨ (wk = 3 ∧ (0 ≤ ws ∧ ws ≤ (l1.length : Int) - 1) ∧ ww = 0) ∨ (wk = 4 ∧ (0 ≤ ws ∧ ws ≤ (l1.length : Int) - 1) ∧ (0 ≤ ww ∧ ww ≤ (l2.length : Int) - 1))) ∧ v = .tuple #[.slice none 0 0, .int .i64 0, .int .i64 33] ∧ A = [])) := by
 refine enterD bw53_at rfl hs ?_
 unfold bw53
 have hlen1 := hl1.len
 have hlen2 := hl2.len
 have hm1 := hp1.hm
 have hm2 := hp2.hm
 have h21 := hp1.h2
 have h22 := hp2.h2
 have hkeys : wk = 1 ∨ wk = 2 ∨ wk = 3 ∨ wk = 4 ∨ (¬ wk = 1 ∧ ¬ wk = 2 ∧ ¬ wk = 3 ∧ ¬ wk = 4) := by omega
 refine r_seq (r_items ?_)
 refine i_op (a_box rfl rfl rfl (fun b1 => ?_)) rfl rfl
 refine i_op (a_box rfl rfl rfl (fun b2 => ?_)) rfl rfl
 refine i_mv rfl rfl rfl (i_mv rfl rfl rfl (i_mv rfl rfl rfl (i_nil (then_n (r_seq (r_items (i_fa rfl rfl rfl (i_ld rfl .here rfl rfl rfl ?_))))))))
 refine i_op (a_inl rfl rfl bw91_at rfl ?_) rfl rfl
 unfold bw91
 refine r_seq (r_items (i_mv rfl rfl rfl (i_nil (then_n (r_seq (r_items ?_))))))
 refine i_op (a_mkmap (fun b3 => ?_)) rfl rfl
 iterate 4 refine i_opn (a_ins rfl rfl rfl rfl .here ?_) rfl
 refine i_mv rfl rfl rfl (i_mv rfl rfl rfl (i_nil (then_n (r_ret ?_))))
 refine endD1 rfl .nil ?_
 refine i_opn (a_again rfl rfl (.next .here) rfl (by simp [eqV, eqA, eqL, kindEq, intEq_eq, eqV_sl hl1.spot, eqV_sl hl2.spot]) ?_) rfl
 refine i_op (a_look rfl rfl (.head _) ?_) rfl rfl
 rcases hkeys with hkey | hkey | hkey | hkey | hkey
 ·subst hkey
  refine i_mv rfl rfl rfl ?_
  iterate 2 refine i_op (a_ext rfl rfl ?_) rfl rfl
  refine i_mv rfl rfl rfl (i_mv rfl rfl rfl (i_nil (then_n (r_seq (r_seq (r_items (i_mv rfl rfl rfl ?_)))))))
  refine i_op (a_not rfl ?_) rfl rfl
  refine i_mv rfl rfl rfl ?_
  refine i_op (a_lda rfl (by decide) (.next (.next .here)) rfl ?_) rfl rfl
  refine i_fa rfl rfl rfl (i_ld rfl (.next .here) rfl rfl rfl (i_fa rfl rfl rfl (i_ld rfl (.next .here) rfl rfl rfl ?_)))
  refine i_op (a_callB rfl rfl (fun s1 h1 => has_s _ _ _ _ _ _ _ _ _ _ _ _ _ s1 h1.wf (by omega) (hl1.ext hs h1.2.1) (hl2.ext hs h1.2.1)) (fun h4 => ?_) (fun h4 => ?_)) rfl rfl
  ·have hhas := h4
   obtain ⟨ws, rfl⟩ : ∃ q : Nat, ws = (q : Int) := ⟨ws.toNat, by omega⟩
   obtain ⟨ww, rfl⟩ : ∃ q : Nat, ww = (q : Int) := ⟨ww.toNat, by omega⟩
   have ho1 := onlyL_len (x := ws)
   have ho2 := onlyL_len (x := ww)
   have hw1 := wts_len (l := l1)
   have hw2 := wts_len (l := l2)
   have hw3 := wts_len (l := l2.take (ww + 1))
   have hw4 : (l2.take (ww + 1)).length = ww + 1 := by rw [List.length_take]; omega
   refine i_op (a_not rfl ?_) rfl rfl
   refine i_op (a_pick_f rfl rfl rfl ?_) rfl rfl
   refine i_nil (then_n (r_cond_f rfl (r_skip (then_n (r_seq (r_items (i_mv rfl rfl rfl ?_)))))))
   refine i_op (a_lda rfl (by decide) (.next (.next .here)) rfl ?_) rfl rfl
   refine i_op (a_lda rfl (by decide) (.next .here) rfl ?_) rfl rfl
   refine i_op (a_build rfl rfl ?_) rfl rfl
   refine i_op (a_inl rfl rfl bw130_at rfl ?_) rfl rfl
   unfold bw130
   refine r_seq (r_items ?_)
   refine i_op (a_box rfl rfl rfl (fun b5 => ?_)) rfl rfl
   refine i_op (a_new rfl rfl (fun b6 => ?_)) rfl rfl
   refine i_mv rfl rfl rfl (i_nil (then_n (r_seq (r_seq (r_items ?_)))))
   iterate 2 refine i_fa rfl rfl rfl ?_
   refine i_ld rfl (.next .here) rfl rfl rfl ?_
   refine i_op (a_neq rfl rfl (fun h7 => ?_) (fun h7 => ?_)) rfl rfl
   ·refine i_mv rfl rfl rfl (i_no rfl rfl (i_no rfl rfl (i_no rfl rfl (i_no rfl rfl ?_))))
    refine i_op (a_pick_t rfl rfl rfl ?_) rfl rfl
    refine i_nil (then_n (r_cond_t rfl (r_seq (r_items ?_))))
    refine i_op (a_build rfl rfl ?_) rfl rfl
    refine i_opn (a_sta rfl rfl .here rfl rfl rfl rfl ?_) rfl
    refine i_mv rfl rfl rfl (i_nil (then_n (r_ret (then_r ?_))))
    refine endDc rfl (by decide) .nil .here rfl rfl ?_
    refine i_mv rfl rfl rfl ?_
    iterate 2 refine i_op (a_ext rfl rfl ?_) rfl rfl
    refine i_op (a_new rfl rfl (fun b8 => ?_)) rfl rfl
    refine i_opn (a_sta rfl rfl .here rfl rfl rfl rfl ?_) rfl
    refine i_mv rfl rfl rfl (i_nil (then_n (r_seq (r_seq (r_items (i_mv rfl rfl rfl ?_))))))
    refine i_op (a_not rfl ?_) rfl rfl
    refine i_nil (then_n (r_cond_t rfl (r_seq (r_items (i_mv rfl rfl rfl (i_mv rfl rfl rfl (i_mv rfl rfl rfl (i_nil (then_n (r_ret (then_r ?_)))))))))))
    refine endD3A rfl rfl rfl .nil (List.nil_sublist _) (.inr ⟨?_, rfl, rfl⟩)
    first | omega | (intro h; omega)
   ·refine i_mv rfl rfl rfl ?_
    iterate 2 refine i_fa rfl rfl rfl ?_
    refine i_ld rfl (.next .here) rfl rfl rfl ?_
    refine i_op (a_lss rfl rfl (fun h9 => ?_) (fun h9 => ?_)) rfl rfl
    ·refine i_op (a_pick_f rfl rfl rfl ?_) rfl rfl
     refine i_nil (then_n (r_cond_t rfl (r_seq (r_items ?_))))
     refine i_op (a_build rfl rfl ?_) rfl rfl
     refine i_opn (a_sta rfl rfl .here rfl rfl rfl rfl ?_) rfl
     refine i_mv rfl rfl rfl (i_nil (then_n (r_ret (then_r ?_))))
     refine endDc rfl (by decide) .nil .here rfl rfl ?_
     refine i_mv rfl rfl rfl ?_
     iterate 2 refine i_op (a_ext rfl rfl ?_) rfl rfl
     refine i_op (a_new rfl rfl (fun b10 => ?_)) rfl rfl
     refine i_opn (a_sta rfl rfl .here rfl rfl rfl rfl ?_) rfl
     refine i_mv rfl rfl rfl (i_nil (then_n (r_seq (r_seq (r_items (i_mv rfl rfl rfl ?_))))))
     refine i_op (a_not rfl ?_) rfl rfl
     refine i_nil (then_n (r_cond_t rfl (r_seq (r_items (i_mv rfl rfl rfl (i_mv rfl rfl rfl (i_mv rfl rfl rfl (i_nil (then_n (r_ret (then_r ?_)))))))))))
     refine endD3A rfl rfl rfl .nil (List.nil_sublist _) (.inr ⟨?_, rfl, rfl⟩)
     first | omega | (intro h; omega)
    ·refine i_op (a_pick_f rfl rfl rfl ?_) rfl rfl
     refine i_nil (then_n (r_cond_f rfl (r_skip (then_n (r_seq (r_items ?_))))))
     iterate 2 refine i_fa rfl rfl rfl ?_
     refine i_ld rfl (.next .here) rfl rfl rfl ?_
     iterate 2 refine i_fa rfl rfl rfl ?_
     refine i_ld rfl (.next .here) rfl rfl rfl ?_
     iterate 2 refine i_fa rfl rfl rfl ?_
     refine i_ld rfl (.next .here) rfl rfl rfl ?_
     refine i_op (a_add rfl rfl (by omega) ?_) rfl rfl
     refine i_op (a_slcI (h := (l2.take (ww + 1)).length) hl2 rfl rfl (by rw [List.length_take]; omega) (by omega) (by rw [List.length_take]; omega) (by assumption) ?_) rfl rfl
     refine i_op (a_call rfl rfl (fun s1 h1 => integral_s _ _ _ _ s1 h1.wf (by omega) (hl1.ext hs h1.2.1) hp1) (fun v1 A1 q1 => ?_)) rfl rfl
     obtain ⟨b11, rfl, rfl⟩ := q1
     refine i_opn (a_againSI (h := (l2.take (ww + 1)).length) hl2 rfl rfl (by rw [List.length_take]; omega) rfl (by omega) (by rw [List.length_take]; omega) (by assumption) ?_) rfl
     iterate 2 refine i_opn (a_again rfl rfl (.next (.next .here)) rfl (by simp [eqV, eqA, eqL, kindEq, intEq_eq, eqV_sl hl1.spot, eqV_sl hl2.spot]) ?_) rfl
     refine i_op (a_call rfl rfl (fun s1 h1 => integral_s _ _ _ _ s1 h1.wf (by omega) ((hl2.take (ww + 1)).ext hs h1.2.1) (plc_take hp2 (by omega) (by omega))) (fun v1 A1 q1 => ?_)) rfl rfl
     obtain ⟨b12, rfl, rfl⟩ := q1
     refine i_op (a_build rfl rfl ?_) rfl rfl
     refine i_opn (a_sta rfl rfl (.next (.next .here)) rfl rfl rfl rfl ?_) rfl
     refine i_mv rfl rfl rfl (i_nil (then_n (r_ret ?_)))
     refine endDc rfl (by decide) .nil (.next (.next .here)) rfl rfl ?_
     refine i_mv rfl rfl rfl ?_
     iterate 2 refine i_op (a_ext rfl rfl ?_) rfl rfl
     refine i_op (a_new rfl rfl (fun b13 => ?_)) rfl rfl
     refine i_opn (a_sta rfl rfl .here rfl rfl rfl rfl ?_) rfl
     refine i_mv rfl rfl rfl (i_nil (then_n (r_seq (r_seq (r_items (i_mv rfl rfl rfl ?_))))))
     refine i_op (a_not rfl ?_) rfl rfl
     refine i_nil (then_n (r_cond_f rfl (r_skip (then_n (r_seq (r_items ?_))))))
     refine i_op (a_lit rfl rfl rfl (fun b14 => ?_)) rfl rfl
     refine i_op (a_new rfl rfl (fun b15 => ?_)) rfl rfl
     refine i_opn (a_st rfl rfl .here rfl rfl ?_) rfl
     refine i_nil (then_n (r_seq (r_seq (r_items ?_))))
     refine i_op (a_lda rfl (by decide) (.next (.next (.next (.next (.next (.next (.next (.next (.next .here))))))))) rfl ?_) rfl rfl
     refine i_op (a_inl rfl rfl bw92_at rfl ?_) rfl rfl
     unfold bw92
     refine r_seq (r_items ?_)
     refine i_op (a_box rfl rfl rfl (fun b16 => ?_)) rfl rfl
     refine i_mv rfl rfl rfl (i_nil (then_n (r_seq (r_items ?_))))
     refine i_op (a_fn rfl rfl ?_) rfl rfl
     refine i_mv rfl rfl rfl (i_nil (then_n (r_ret ?_)))
     refine endD1 rfl .nil ?_
     refine i_nil (then_n (r_block ?_))
     refine r_rangeV rfl bw134_at rfl (fun q17 l18 LO19 BO20 hLO19 hBO20 => ?_)
     unfold bw134
     refine r_front (.next (.next (.next (.next .here)))) ?_
     refine r_seq (r_items (i_mv rfl rfl rfl (i_nil (then_n (r_seq (r_items (i_fa rfl rfl rfl (i_ld rfl (.next (.next (.next .here))) rfl rfl rfl ?_))))))))
     refine i_op (a_lenx rfl hl1.spot ?_) rfl rfl
     refine i_mv rfl rfl rfl (i_nil (then_n (r_block ?_)))
     refine r_loop (fun j e A => ∃ (i b cp : Nat) (op : Bool), e = [(0, .func (.yield l18) ⟨[]⟩ ⟨[]⟩), (1, .pointer (some ⟨b16, 0, none⟩)), (3, .int .i64 ((l2.length * i : Nat) : Int)), (8, .int .i64 (l1.length : Int)), (9, .int .i64 (i : Int))] ∧ A = (.row b 3 op (ints (gpre (wts l1) (wts (l2.take (ww + 1))) l2.length (l2.length * i))) :: (LO19 :: (.dfr q17 :: (.row b16 33 false ([.int .i64 d, .int .i64 r, .slice a1 l1.length c1, .slice a2 l2.length c2, .int .i64 al, .int .i64 up]) :: (.row b15 22 false ([.slice (some ⟨b, 0, none⟩) (l2.length * i + 1) cp]) :: (.row b13 147 false ([.slice (some ⟨b11, 0, none⟩) (l1.length) (l1.length), .slice (some ⟨b12, 0, none⟩) ((l2.take (ww + 1)).length) ((l2.take (ww + 1)).length), .int .i64 648000000]) :: (.row b12 3 false (ints (wts (l2.take (ww + 1)))) :: (.row b11 3 false (ints (wts l1)) :: [])))))))) ∧ j = l1.length - i ∧ i ≤ l1.length ∧ FT op cp (l2.length * i)) 700 281474976710656 281474976710656 ?_ (j := _) (env2 := _) (A2 := _) ?_ ?_ ?_ ?_ ⟨0, b14, 1, false, rfl, rfl, rfl, by omega, (.inr ⟨rfl, rfl, rfl⟩)⟩
     rotate_left
     ·omega
     ·omega
     ·exact (Less.cons rfl (Less.cons rfl (Less.cons rfl (Less.cons rfl (Less.cons rfl Less.nil)))))
     ·exact (.cons_cons _ (.cons_cons _ (.cons_cons _ (.cons_cons _ (.cons_cons _ (.cons_cons _ (.cons_cons _ (.cons_cons _ (.cons _ (.cons _ (.cons _ (.cons _ (.cons _ .slnil)))))))))))))
     rintro n hn j _ _ ⟨i, b, cp, op, rfl, rfl, rfl, hi, hT⟩
     have hq9 := mul_sm (x := (l2.length : Int)) (y := (i : Int)) (by omega) (by omega)
     have hq8 : ((l2.length * i : Nat) : Int) = (l2.length : Int) * (i : Int) := by simp
     refine r_seq (r_items ?_)
     refine i_op (a_lss rfl rfl (fun h21 => ?_) (fun h21 => ?_)) rfl rfl
     ·refine i_nil (then_n (r_seq (r_cond_t rfl (r_skip (then_n (r_seq (r_block (r_seq (r_items (i_mv rfl rfl rfl (i_mv rfl rfl rfl (i_nil (then_n (r_seq (r_items (i_fa rfl rfl rfl (i_ld rfl (.next (.next (.next .here))) rfl rfl rfl ?_)))))))))))))))))
      refine i_op (a_lenx rfl hl2.spot ?_) rfl rfl
      refine i_mv rfl rfl rfl (i_nil (then_n (r_block ?_)))
      refine r_loop (fun j e A => ∃ (y b cp : Nat) (op : Bool), e = [(0, .func (.yield l18) ⟨[]⟩ ⟨[]⟩), (1, .pointer (some ⟨b16, 0, none⟩)), (3, .int .i64 ((l2.length * i + y : Nat) : Int)), (4, .int .i64 (i : Int)), (8, .int .i64 (l1.length : Int)), (9, .int .i64 (i : Int)), (14, .int .i64 (l2.length : Int)), (15, .int .i64 (y : Int))] ∧ A = (.row b 3 op (ints (gpre (wts l1) (wts (l2.take (ww + 1))) l2.length (l2.length * i + y))) :: (LO19 :: (.dfr q17 :: (.row b16 33 false ([.int .i64 d, .int .i64 r, .slice a1 l1.length c1, .slice a2 l2.length c2, .int .i64 al, .int .i64 up]) :: (.row b15 22 false ([.slice (some ⟨b, 0, none⟩) (l2.length * i + y + 1) cp]) :: (.row b13 147 false ([.slice (some ⟨b11, 0, none⟩) (l1.length) (l1.length), .slice (some ⟨b12, 0, none⟩) ((l2.take (ww + 1)).length) ((l2.take (ww + 1)).length), .int .i64 648000000]) :: (.row b12 3 false (ints (wts (l2.take (ww + 1)))) :: (.row b11 3 false (ints (wts l1)) :: [])))))))) ∧ j = l2.length - y ∧ y ≤ l2.length ∧ FT op cp (l2.length * i + y)) 500 0 281474976710656 ?_ (j := _) (env2 := _) (A2 := _) ?_ ?_ ?_ ?_ ⟨0, b, cp, op, rfl, rfl, rfl, by omega, hT⟩
      rotate_left
      ·omega
      ·omega
      ·exact (Less.cons rfl (Less.cons rfl (Less.cons rfl (Less.cons rfl (Less.cons rfl (Less.cons rfl (Less.cons rfl (Less.cons rfl Less.nil))))))))
      ·exact (.cons_cons _ (.cons_cons _ (.cons_cons _ (.cons_cons _ (.cons_cons _ (.cons_cons _ (.cons_cons _ (.cons_cons _ .slnil))))))))
      rintro n hn j _ _ ⟨y, b, cp, op, rfl, rfl, rfl, hy, hT2⟩
      refine r_seq (r_items ?_)
      refine i_op (a_lss rfl rfl (fun h22 => ?_) (fun h22 => ?_)) rfl rfl
      ·refine i_nil (then_n (r_seq (r_cond_t rfl (r_skip (then_n (r_seq (r_block (r_seq (r_items (i_mv rfl rfl rfl (i_mv rfl rfl rfl (i_nil (then_n (r_seq (r_items (i_mv rfl rfl rfl ?_))))))))))))))))
       refine i_op (a_add rfl rfl (by omega) ?_) rfl rfl
       refine i_mv rfl rfl rfl (i_nil (then_n (r_seq (r_items (i_mv rfl rfl rfl (i_mv rfl rfl rfl (i_mv rfl rfl rfl (i_mv rfl rfl rfl ?_))))))))
       refine i_op (a_build rfl rfl ?_) rfl rfl
       refine i_op (a_yieldV rfl rfl hLO19 hBO20 (by simp) rfl rfl ?_) rfl rfl
       refine r_items ?_
       refine i_op (a_new rfl rfl (fun b23 => ?_)) rfl rfl
       refine i_opn (a_sta rfl rfl .here rfl rfl rfl rfl ?_) rfl
       refine i_nil ?_
       refine ⟨_, (.next (.next .here)), ?_⟩
       refine r_block (r_seq (r_items (i_mv rfl rfl rfl (i_nil (then_n (r_seq (r_seq (r_items (i_fa rfl rfl rfl (i_ld rfl .here rfl rfl rfl (i_fa rfl rfl rfl (i_ld rfl (.next (.next (.next (.next (.next (.next .here)))))) rfl rfl rfl ?_))))))))))))
       refine i_op (a_len rfl ?_) rfl rfl
       refine i_op (a_lss rfl rfl (fun h24 => ?_) (fun h24 => ?_)) rfl rfl
       ·refine i_mv rfl rfl rfl (i_fa rfl rfl rfl (i_ld rfl .here rfl rfl rfl (i_fa rfl rfl rfl (i_ld rfl (.next (.next (.next (.next (.next (.next .here)))))) rfl rfl rfl ?_))))
        refine i_op (a_len rfl ?_) rfl rfl
        refine i_op (a_lss rfl rfl (fun h25 => ?_) (fun h25 => ?_)) rfl rfl
        ·refine i_op (a_pick_t rfl rfl rfl ?_) rfl rfl
         refine i_nil (then_n (r_cond_t rfl (r_items (i_fa rfl rfl rfl (i_ld rfl (.next (.next (.next (.next (.next (.next .here)))))) rfl rfl rfl (i_fa rfl rfl rfl (i_ld rfl .here rfl rfl rfl ?_)))))))
         refine i_op (a_ia (j := i) rfl rfl (by omega) (by omega) ?_) rfl rfl
         refine i_op (a_ldI rfl (.next (.next (.next (.next (.next (.next (.next (.next .here)))))))) (by first | omega | (simp; done) | (simp; omega)) ?_) rfl rfl
         refine i_fa rfl rfl rfl (i_ld rfl (.next (.next (.next (.next (.next (.next .here)))))) rfl rfl rfl (i_fa rfl rfl rfl (i_ld rfl .here rfl rfl rfl ?_)))
         refine i_op (a_ia (j := y) rfl rfl (by omega) (by omega) ?_) rfl rfl
         refine i_op (a_ldI rfl (.next (.next (.next (.next (.next (.next (.next .here))))))) (by first | omega | (simp; done) | (simp; omega)) ?_) rfl rfl
         refine i_op (a_mul rfl rfl (mul_bd (by first | exact wts_bd hp1 _ | exact only_bd _ _) (by first | exact wts_bd hp2 _ | exact wts_bd (plc_take hp2 (by omega) (by omega)) _ | exact only_bd _ _)) ?_) rfl rfl
         refine i_mv rfl rfl rfl (i_nil (then_n (r_items (i_ld rfl (.next (.next (.next (.next (.next .here))))) rfl rfl rfl (i_mv rfl rfl rfl ?_)))))
         refine i_op (a_lit rfl rfl rfl (fun b26 => ?_)) rfl rfl
         refine i_op (a_app rfl rfl (Src.own .here rfl (by simp)) (.next (.next .here)) (by rw [ints_len, gpre_len, Nat.mul_one]) (tight_of hT2) (by decide) (by omega) (by omega) (fun b27 => ?_)) rfl rfl
         refine i_opn (a_st rfl rfl (.next (.next (.next (.next (.next (.next .here)))))) rfl rfl ?_) rfl
         refine i_nil (block_n ?_)
         refine ⟨_, (.next (.next (.next .here))), ?_⟩
         refine i_op (a_not rfl ?_) rfl rfl
         refine i_nil (then_n (r_cond_f rfl (r_skip (block_n (then_n (r_items ?_))))))
         refine i_op (a_add rfl rfl (by omega) ?_) rfl rfl
         refine i_mv rfl rfl rfl (i_nil (then_n ?_))
         exact ⟨rfl, _, _, _, (show l2.length - (y + 1) < l2.length - y by omega), (lc 0 rfl (lc 1 rfl (lc 3 rfl (lc 4 rfl (lc 8 rfl (lc 9 rfl (lc 14 rfl (lc 15 rfl Less.nil)))))))), (.cons_cons _ (.cons _ (.cons _ (.cons_cons _ (.cons_cons _ (.cons_cons _ (.cons_cons _ (.cons_cons _ (.cons_cons _ (.cons_cons _ .slnil)))))))))), ⟨y + 1, b27, _, _, rfl, (by simp only [List.set_cons_zero]; first | (rw [gpre_add (n := l2.length) (i := i) (y := y) (by omega)]; first | done | rfl) | (rw [gpre_add0 (al := wts l1) (up := wts (l2.take (ww + 1))) (n := l2.length) (i := i) (y := y) (by omega) (.inl (by omega))]; first | done | rfl) | (rw [gpre_add0 (al := wts l1) (up := wts (l2.take (ww + 1))) (n := l2.length) (i := i) (y := y) (by omega) (.inr (by omega))]; first | done | rfl)), rfl, by omega, (.inl ⟨rfl, rfl⟩)⟩⟩
        ·refine i_op (a_pick_t rfl rfl rfl ?_) rfl rfl
         refine i_nil (then_n (r_cond_f rfl (r_skip (then_n (r_items (i_ld rfl (.next (.next (.next (.next (.next .here))))) rfl rfl rfl (i_mv rfl rfl rfl ?_)))))))
         refine i_op (a_lit rfl rfl rfl (fun b28 => ?_)) rfl rfl
         refine i_op (a_app rfl rfl (Src.own .here rfl (by simp)) (.next (.next .here)) (by rw [ints_len, gpre_len, Nat.mul_one]) (tight_of hT2) (by decide) (by omega) (by omega) (fun b29 => ?_)) rfl rfl
         refine i_opn (a_st rfl rfl (.next (.next (.next (.next (.next (.next .here)))))) rfl rfl ?_) rfl
         refine i_nil (block_n ?_)
         refine ⟨_, (.next (.next (.next .here))), ?_⟩
         refine i_op (a_not rfl ?_) rfl rfl
         refine i_nil (then_n (r_cond_f rfl (r_skip (block_n (then_n (r_items ?_))))))
         refine i_op (a_add rfl rfl (by omega) ?_) rfl rfl
         refine i_mv rfl rfl rfl (i_nil (then_n ?_))
         exact ⟨rfl, _, _, _, (show l2.length - (y + 1) < l2.length - y by omega), (lc 0 rfl (lc 1 rfl (lc 3 rfl (lc 4 rfl (lc 8 rfl (lc 9 rfl (lc 14 rfl (lc 15 rfl Less.nil)))))))), (.cons_cons _ (.cons _ (.cons _ (.cons_cons _ (.cons_cons _ (.cons_cons _ (.cons_cons _ (.cons_cons _ (.cons_cons _ (.cons_cons _ .slnil)))))))))), ⟨y + 1, b29, _, _, rfl, (by simp only [List.set_cons_zero]; first | (rw [gpre_add (n := l2.length) (i := i) (y := y) (by omega)]; first | done | rfl) | (rw [gpre_add0 (al := wts l1) (up := wts (l2.take (ww + 1))) (n := l2.length) (i := i) (y := y) (by omega) (.inl (by omega))]; first | done | rfl) | (rw [gpre_add0 (al := wts l1) (up := wts (l2.take (ww + 1))) (n := l2.length) (i := i) (y := y) (by omega) (.inr (by omega))]; first | done | rfl)), rfl, by omega, (.inl ⟨rfl, rfl⟩)⟩⟩
       ·refine i_mv rfl rfl rfl (i_no rfl rfl (i_no rfl rfl (i_no rfl rfl (i_no rfl rfl (i_no rfl rfl (i_no rfl rfl ?_))))))
        refine i_op (a_pick_f rfl rfl rfl ?_) rfl rfl
        refine i_nil (then_n (r_cond_f rfl (r_skip (then_n (r_items (i_ld rfl (.next (.next (.next (.next (.next .here))))) rfl rfl rfl (i_mv rfl rfl rfl ?_)))))))
        refine i_op (a_lit rfl rfl rfl (fun b30 => ?_)) rfl rfl
        refine i_op (a_app rfl rfl (Src.own .here rfl (by simp)) (.next (.next .here)) (by rw [ints_len, gpre_len, Nat.mul_one]) (tight_of hT2) (by decide) (by omega) (by omega) (fun b31 => ?_)) rfl rfl
        refine i_opn (a_st rfl rfl (.next (.next (.next (.next (.next (.next .here)))))) rfl rfl ?_) rfl
        refine i_nil (block_n ?_)
        refine ⟨_, (.next (.next (.next .here))), ?_⟩
        refine i_op (a_not rfl ?_) rfl rfl
        refine i_nil (then_n (r_cond_f rfl (r_skip (block_n (then_n (r_items ?_))))))
        refine i_op (a_add rfl rfl (by omega) ?_) rfl rfl
        refine i_mv rfl rfl rfl (i_nil (then_n ?_))
        exact ⟨rfl, _, _, _, (show l2.length - (y + 1) < l2.length - y by omega), (lc 0 rfl (lc 1 rfl (lc 3 rfl (lc 4 rfl (lc 8 rfl (lc 9 rfl (lc 14 rfl (lc 15 rfl Less.nil)))))))), (.cons_cons _ (.cons _ (.cons _ (.cons_cons _ (.cons_cons _ (.cons_cons _ (.cons_cons _ (.cons_cons _ (.cons_cons _ (.cons_cons _ .slnil)))))))))), ⟨y + 1, b31, _, _, rfl, (by simp only [List.set_cons_zero]; first | (rw [gpre_add (n := l2.length) (i := i) (y := y) (by omega)]; first | done | rfl) | (rw [gpre_add0 (al := wts l1) (up := wts (l2.take (ww + 1))) (n := l2.length) (i := i) (y := y) (by omega) (.inl (by omega))]; first | done | rfl) | (rw [gpre_add0 (al := wts l1) (up := wts (l2.take (ww + 1))) (n := l2.length) (i := i) (y := y) (by omega) (.inr (by omega))]; first | done | rfl)), rfl, by omega, (.inl ⟨rfl, rfl⟩)⟩⟩
      ·refine i_nil (then_n (r_seq (r_cond_f rfl (r_exit (then_e (then_e (block_hit (block_n (then_n (r_items ?_))))))))))
       refine i_op (a_add rfl rfl (by omega) ?_) rfl rfl
       refine i_mv rfl rfl rfl (i_nil (then_n ?_))
       have hyl : y = l2.length := (by omega)
       subst hyl
       exact ⟨rfl, _, _, _, (show l1.length - (i + 1) < l1.length - i by omega), (lc 0 rfl (lc 1 rfl (lc 3 rfl (lc 8 rfl (lc 9 rfl Less.nil))))), (.cons_cons _ (.cons_cons _ (.cons_cons _ (.cons_cons _ (.cons_cons _ (.cons_cons _ (.cons_cons _ (.cons_cons _ .slnil)))))))), ⟨i + 1, b, _, _, rfl, rfl, rfl, by omega, hT2⟩⟩
     ·refine i_nil (then_n (r_seq (r_cond_f rfl (r_exit (then_e (then_e (block_hit ?_)))))))
      refine endD0n .nil ?_
      refine .inl ⟨_, (.next .here), ?_⟩
      refine block_n (then_n (r_seq (r_items (i_ld rfl (.next (.next (.next .here))) rfl rfl rfl (i_fa rfl rfl rfl (i_ld rfl (.next (.next (.next (.next .here)))) rfl rfl rfl (i_mv rfl rfl rfl (i_mv rfl rfl rfl (i_mv rfl rfl rfl (i_nil (then_n (r_ret ?_))))))))))))
      have hil : i = l1.length := by omega
      subst hil
      obtain ⟨rfl, rfl⟩ := ft_pos hT (Nat.mul_pos (by omega) (by omega))
      exact endD3A rfl rfl rfl (.cons (.next .here) .nil) (.cons_cons _ (.cons _ (.cons _ (.cons _ (.cons _ (.cons _ .slnil)))))) (.inl ⟨by omega, b, rfl, rfl⟩)
  ·refine i_op (a_not rfl ?_) rfl rfl
   refine i_op (a_pick_f rfl rfl rfl ?_) rfl rfl
   refine i_nil (then_n (r_cond_t rfl (r_seq (r_items (i_mv rfl rfl rfl (i_mv rfl rfl rfl (i_mv rfl rfl rfl (i_nil (then_n (r_ret (then_r ?_)))))))))))
   refine endD3A rfl rfl rfl .nil (List.nil_sublist _) (.inr ⟨?_, rfl, rfl⟩)
   first | omega | (intro h; omega)
 ·subst hkey
  refine i_mv rfl rfl rfl ?_
  iterate 2 refine i_op (a_ext rfl rfl ?_) rfl rfl
  refine i_mv rfl rfl rfl (i_mv rfl rfl rfl (i_nil (then_n (r_seq (r_seq (r_items (i_mv rfl rfl rfl ?_)))))))
  refine i_op (a_not rfl ?_) rfl rfl
  refine i_mv rfl rfl rfl ?_
  refine i_op (a_lda rfl (by decide) (.next (.next .here)) rfl ?_) rfl rfl
  refine i_fa rfl rfl rfl (i_ld rfl (.next .here) rfl rfl rfl (i_fa rfl rfl rfl (i_ld rfl (.next .here) rfl rfl rfl ?_)))
  refine i_op (a_callB rfl rfl (fun s1 h1 => has_s _ _ _ _ _ _ _ _ _ _ _ _ _ s1 h1.wf (by omega) (hl1.ext hs h1.2.1) (hl2.ext hs h1.2.1)) (fun h32 => ?_) (fun h32 => ?_)) rfl rfl
  ·have hhas := h32
   obtain ⟨ws, rfl⟩ : ∃ q : Nat, ws = (q : Int) := ⟨ws.toNat, by omega⟩
   obtain ⟨ww, rfl⟩ : ∃ q : Nat, ww = (q : Int) := ⟨ww.toNat, by omega⟩
   have ho1 := onlyL_len (x := ws)
   have ho2 := onlyL_len (x := ww)
   have hw1 := wts_len (l := l1)
   have hw2 := wts_len (l := l2)
   have hw3 := wts_len (l := l2.take (ww + 1))
   have hw4 : (l2.take (ww + 1)).length = ww + 1 := by rw [List.length_take]; omega
   refine i_op (a_not rfl ?_) rfl rfl
   refine i_op (a_pick_f rfl rfl rfl ?_) rfl rfl
   refine i_nil (then_n (r_cond_f rfl (r_skip (then_n (r_seq (r_items (i_mv rfl rfl rfl ?_)))))))
   refine i_op (a_lda rfl (by decide) (.next (.next .here)) rfl ?_) rfl rfl
   refine i_op (a_lda rfl (by decide) (.next .here) rfl ?_) rfl rfl
   refine i_op (a_build rfl rfl ?_) rfl rfl
   refine i_op (a_inl rfl rfl bw131_at rfl ?_) rfl rfl
   unfold bw131
   refine r_seq (r_items ?_)
   refine i_op (a_box rfl rfl rfl (fun b33 => ?_)) rfl rfl
   refine i_op (a_new rfl rfl (fun b34 => ?_)) rfl rfl
   refine i_mv rfl rfl rfl (i_nil (then_n (r_seq (r_items ?_))))
   iterate 2 refine i_fa rfl rfl rfl ?_
   refine i_ld rfl (.next .here) rfl rfl rfl ?_
   iterate 2 refine i_fa rfl rfl rfl ?_
   refine i_ld rfl (.next .here) rfl rfl rfl ?_
   iterate 2 refine i_fa rfl rfl rfl ?_
   refine i_ld rfl (.next .here) rfl rfl rfl ?_
   refine i_op (a_eql rfl rfl (fun h35 => ?_) (fun h35 => ?_)) rfl rfl
   ·refine i_op (a_call rfl rfl (fun s1 h1 => integral_s _ _ _ _ s1 h1.wf (by omega) (hl1.ext hs h1.2.1) hp1) (fun v1 A1 q1 => ?_)) rfl rfl
    obtain ⟨b36, rfl, rfl⟩ := q1
    iterate 2 refine i_opn (a_again rfl rfl (.next (.next .here)) rfl (by simp [eqV, eqA, eqL, kindEq, intEq_eq, eqV_sl hl1.spot, eqV_sl hl2.spot]) ?_) rfl
    refine i_op (a_call rfl rfl (fun s1 h1 => only_s _ ww s1 h1.wf (by omega)) (fun v1 A1 q1 => ?_)) rfl rfl
    obtain ⟨b37, rfl, rfl⟩ := q1
    refine i_opn (a_again rfl rfl (.next (.next (.next .here))) rfl (by simp [eqV, eqA, eqL, kindEq, intEq_eq, eqV_sl hl1.spot, eqV_sl hl2.spot]) ?_) rfl
    refine i_op (a_build rfl rfl ?_) rfl rfl
    refine i_opn (a_sta rfl rfl (.next (.next .here)) rfl rfl rfl rfl ?_) rfl
    refine i_opn (a_again rfl rfl (.next (.next (.next .here))) rfl (by simp [eqV, eqA, eqL, kindEq, intEq_eq, eqV_sl hl1.spot, eqV_sl hl2.spot]) ?_) rfl
    refine i_mv rfl rfl rfl (i_nil (then_n (r_ret ?_)))
    refine endDc rfl (by decide) .nil (.next (.next .here)) rfl rfl ?_
    refine i_mv rfl rfl rfl ?_
    iterate 2 refine i_op (a_ext rfl rfl ?_) rfl rfl
    refine i_op (a_new rfl rfl (fun b38 => ?_)) rfl rfl
    refine i_opn (a_sta rfl rfl .here rfl rfl rfl rfl ?_) rfl
    refine i_mv rfl rfl rfl (i_nil (then_n (r_seq (r_seq (r_items (i_mv rfl rfl rfl ?_))))))
    refine i_op (a_not rfl ?_) rfl rfl
    refine i_nil (then_n (r_cond_f rfl (r_skip (then_n (r_seq (r_items ?_))))))
    refine i_op (a_lit rfl rfl rfl (fun b39 => ?_)) rfl rfl
    refine i_op (a_new rfl rfl (fun b40 => ?_)) rfl rfl
    refine i_opn (a_st rfl rfl .here rfl rfl ?_) rfl
    refine i_nil (then_n (r_seq (r_seq (r_items ?_))))
    refine i_op (a_lda rfl (by decide) (.next (.next (.next (.next (.next (.next (.next (.next (.next .here))))))))) rfl ?_) rfl rfl
    refine i_op (a_inl rfl rfl bw92_at rfl ?_) rfl rfl
    unfold bw92
    refine r_seq (r_items ?_)
    refine i_op (a_box rfl rfl rfl (fun b41 => ?_)) rfl rfl
    refine i_mv rfl rfl rfl (i_nil (then_n (r_seq (r_items ?_))))
    refine i_op (a_fn rfl rfl ?_) rfl rfl
    refine i_mv rfl rfl rfl (i_nil (then_n (r_ret ?_)))
    refine endD1 rfl .nil ?_
    refine i_nil (then_n (r_block ?_))
    refine r_rangeV rfl bw134_at rfl (fun q42 l43 LO44 BO45 hLO44 hBO45 => ?_)
    unfold bw134
    refine r_front (.next (.next (.next (.next .here)))) ?_
    refine r_seq (r_items (i_mv rfl rfl rfl (i_nil (then_n (r_seq (r_items (i_fa rfl rfl rfl (i_ld rfl (.next (.next (.next .here))) rfl rfl rfl ?_))))))))
    refine i_op (a_lenx rfl hl1.spot ?_) rfl rfl
    refine i_mv rfl rfl rfl (i_nil (then_n (r_block ?_)))
    refine r_loop (fun j e A => ∃ (i b cp : Nat) (op : Bool), e = [(0, .func (.yield l43) ⟨[]⟩ ⟨[]⟩), (1, .pointer (some ⟨b41, 0, none⟩)), (3, .int .i64 ((l2.length * i : Nat) : Int)), (8, .int .i64 (l1.length : Int)), (9, .int .i64 (i : Int))] ∧ A = (.row b 3 op (ints (gpre (wts l1) (onlyL ww) l2.length (l2.length * i))) :: (LO44 :: (.dfr q42 :: (.row b41 33 false ([.int .i64 d, .int .i64 r, .slice a1 l1.length c1, .slice a2 l2.length c2, .int .i64 al, .int .i64 up]) :: (.row b40 22 false ([.slice (some ⟨b, 0, none⟩) (l2.length * i + 1) cp]) :: (.row b38 147 false ([.slice (some ⟨b36, 0, none⟩) (l1.length) (l1.length), .slice (some ⟨b37, 0, none⟩) (ww + 1) (ww + 1), .int .i64 180000]) :: (.row b37 3 false (ints (onlyL ww)) :: (.row b36 3 false (ints (wts l1)) :: [])))))))) ∧ j = l1.length - i ∧ i ≤ l1.length ∧ FT op cp (l2.length * i)) 700 281474976710656 281474976710656 ?_ (j := _) (env2 := _) (A2 := _) ?_ ?_ ?_ ?_ ⟨0, b39, 1, false, rfl, rfl, rfl, by omega, (.inr ⟨rfl, rfl, rfl⟩)⟩
    rotate_left
    ·omega
    ·omega
    ·exact (Less.cons rfl (Less.cons rfl (Less.cons rfl (Less.cons rfl (Less.cons rfl Less.nil)))))
    ·exact (.cons_cons _ (.cons_cons _ (.cons_cons _ (.cons_cons _ (.cons_cons _ (.cons_cons _ (.cons_cons _ (.cons_cons _ (.cons _ (.cons _ (.cons _ (.cons _ (.cons _ .slnil)))))))))))))
    rintro n hn j _ _ ⟨i, b, cp, op, rfl, rfl, rfl, hi, hT⟩
    have hq9 := mul_sm (x := (l2.length : Int)) (y := (i : Int)) (by omega) (by omega)
    have hq8 : ((l2.length * i : Nat) : Int) = (l2.length : Int) * (i : Int) := by simp
    refine r_seq (r_items ?_)
    refine i_op (a_lss rfl rfl (fun h46 => ?_) (fun h46 => ?_)) rfl rfl
    ·refine i_nil (then_n (r_seq (r_cond_t rfl (r_skip (then_n (r_seq (r_block (r_seq (r_items (i_mv rfl rfl rfl (i_mv rfl rfl rfl (i_nil (then_n (r_seq (r_items (i_fa rfl rfl rfl (i_ld rfl (.next (.next (.next .here))) rfl rfl rfl ?_)))))))))))))))))
     refine i_op (a_lenx rfl hl2.spot ?_) rfl rfl
     refine i_mv rfl rfl rfl (i_nil (then_n (r_block ?_)))
     refine r_loop (fun j e A => ∃ (y b cp : Nat) (op : Bool), e = [(0, .func (.yield l43) ⟨[]⟩ ⟨[]⟩), (1, .pointer (some ⟨b41, 0, none⟩)), (3, .int .i64 ((l2.length * i + y : Nat) : Int)), (4, .int .i64 (i : Int)), (8, .int .i64 (l1.length : Int)), (9, .int .i64 (i : Int)), (14, .int .i64 (l2.length : Int)), (15, .int .i64 (y : Int))] ∧ A = (.row b 3 op (ints (gpre (wts l1) (onlyL ww) l2.length (l2.length * i + y))) :: (LO44 :: (.dfr q42 :: (.row b41 33 false ([.int .i64 d, .int .i64 r, .slice a1 l1.length c1, .slice a2 l2.length c2, .int .i64 al, .int .i64 up]) :: (.row b40 22 false ([.slice (some ⟨b, 0, none⟩) (l2.length * i + y + 1) cp]) :: (.row b38 147 false ([.slice (some ⟨b36, 0, none⟩) (l1.length) (l1.length), .slice (some ⟨b37, 0, none⟩) (ww + 1) (ww + 1), .int .i64 180000]) :: (.row b37 3 false (ints (onlyL ww)) :: (.row b36 3 false (ints (wts l1)) :: [])))))))) ∧ j = l2.length - y ∧ y ≤ l2.length ∧ FT op cp (l2.length * i + y)) 500 0 281474976710656 ?_ (j := _) (env2 := _) (A2 := _) ?_ ?_ ?_ ?_ ⟨0, b, cp, op, rfl, rfl, rfl, by omega, hT⟩
     rotate_left
     ·omega
     ·omega
     ·exact (Less.cons rfl (Less.cons rfl (Less.cons rfl (Less.cons rfl (Less.cons rfl (Less.cons rfl (Less.cons rfl (Less.cons rfl Less.nil))))))))
     ·exact (.cons_cons _ (.cons_cons _ (.cons_cons _ (.cons_cons _ (.cons_cons _ (.cons_cons _ (.cons_cons _ (.cons_cons _ .slnil))))))))
     rintro n hn j _ _ ⟨y, b, cp, op, rfl, rfl, rfl, hy, hT2⟩
     refine r_seq (r_items ?_)
     refine i_op (a_lss rfl rfl (fun h47 => ?_) (fun h47 => ?_)) rfl rfl
     ·refine i_nil (then_n (r_seq (r_cond_t rfl (r_skip (then_n (r_seq (r_block (r_seq (r_items (i_mv rfl rfl rfl (i_mv rfl rfl rfl (i_nil (then_n (r_seq (r_items (i_mv rfl rfl rfl ?_))))))))))))))))
      refine i_op (a_add rfl rfl (by omega) ?_) rfl rfl
      refine i_mv rfl rfl rfl (i_nil (then_n (r_seq (r_items (i_mv rfl rfl rfl (i_mv rfl rfl rfl (i_mv rfl rfl rfl (i_mv rfl rfl rfl ?_))))))))
      refine i_op (a_build rfl rfl ?_) rfl rfl
      refine i_op (a_yieldV rfl rfl hLO44 hBO45 (by simp) rfl rfl ?_) rfl rfl
      refine r_items ?_
      refine i_op (a_new rfl rfl (fun b48 => ?_)) rfl rfl
      refine i_opn (a_sta rfl rfl .here rfl rfl rfl rfl ?_) rfl
      refine i_nil ?_
      refine ⟨_, (.next (.next .here)), ?_⟩
      refine r_block (r_seq (r_items (i_mv rfl rfl rfl (i_nil (then_n (r_seq (r_seq (r_items (i_fa rfl rfl rfl (i_ld rfl .here rfl rfl rfl (i_fa rfl rfl rfl (i_ld rfl (.next (.next (.next (.next (.next (.next .here)))))) rfl rfl rfl ?_))))))))))))
      refine i_op (a_len rfl ?_) rfl rfl
      refine i_op (a_lss rfl rfl (fun h49 => ?_) (fun h49 => ?_)) rfl rfl
      ·refine i_mv rfl rfl rfl (i_fa rfl rfl rfl (i_ld rfl .here rfl rfl rfl (i_fa rfl rfl rfl (i_ld rfl (.next (.next (.next (.next (.next (.next .here)))))) rfl rfl rfl ?_))))
       refine i_op (a_len rfl ?_) rfl rfl
       refine i_op (a_lss rfl rfl (fun h50 => ?_) (fun h50 => ?_)) rfl rfl
       ·refine i_op (a_pick_t rfl rfl rfl ?_) rfl rfl
        refine i_nil (then_n (r_cond_t rfl (r_items (i_fa rfl rfl rfl (i_ld rfl (.next (.next (.next (.next (.next (.next .here)))))) rfl rfl rfl (i_fa rfl rfl rfl (i_ld rfl .here rfl rfl rfl ?_)))))))
        refine i_op (a_ia (j := i) rfl rfl (by omega) (by omega) ?_) rfl rfl
        refine i_op (a_ldI rfl (.next (.next (.next (.next (.next (.next (.next (.next .here)))))))) (by first | omega | (simp; done) | (simp; omega)) ?_) rfl rfl
        refine i_fa rfl rfl rfl (i_ld rfl (.next (.next (.next (.next (.next (.next .here)))))) rfl rfl rfl (i_fa rfl rfl rfl (i_ld rfl .here rfl rfl rfl ?_)))
        refine i_op (a_ia (j := y) rfl rfl (by omega) (by omega) ?_) rfl rfl
        refine i_op (a_ldI rfl (.next (.next (.next (.next (.next (.next (.next .here))))))) (by first | omega | (simp; done) | (simp; omega)) ?_) rfl rfl
        refine i_op (a_mul rfl rfl (mul_bd (by first | exact wts_bd hp1 _ | exact only_bd _ _) (by first | exact wts_bd hp2 _ | exact wts_bd (plc_take hp2 (by omega) (by omega)) _ | exact only_bd _ _)) ?_) rfl rfl
        refine i_mv rfl rfl rfl (i_nil (then_n (r_items (i_ld rfl (.next (.next (.next (.next (.next .here))))) rfl rfl rfl (i_mv rfl rfl rfl ?_)))))
        refine i_op (a_lit rfl rfl rfl (fun b51 => ?_)) rfl rfl
        refine i_op (a_app rfl rfl (Src.own .here rfl (by simp)) (.next (.next .here)) (by rw [ints_len, gpre_len, Nat.mul_one]) (tight_of hT2) (by decide) (by omega) (by omega) (fun b52 => ?_)) rfl rfl
        refine i_opn (a_st rfl rfl (.next (.next (.next (.next (.next (.next .here)))))) rfl rfl ?_) rfl
        refine i_nil (block_n ?_)
        refine ⟨_, (.next (.next (.next .here))), ?_⟩
        refine i_op (a_not rfl ?_) rfl rfl
        refine i_nil (then_n (r_cond_f rfl (r_skip (block_n (then_n (r_items ?_))))))
        refine i_op (a_add rfl rfl (by omega) ?_) rfl rfl
        refine i_mv rfl rfl rfl (i_nil (then_n ?_))
        exact ⟨rfl, _, _, _, (show l2.length - (y + 1) < l2.length - y by omega), (lc 0 rfl (lc 1 rfl (lc 3 rfl (lc 4 rfl (lc 8 rfl (lc 9 rfl (lc 14 rfl (lc 15 rfl Less.nil)))))))), (.cons_cons _ (.cons _ (.cons _ (.cons_cons _ (.cons_cons _ (.cons_cons _ (.cons_cons _ (.cons_cons _ (.cons_cons _ (.cons_cons _ .slnil)))))))))), ⟨y + 1, b52, _, _, rfl, (by simp only [List.set_cons_zero]; first | (rw [gpre_add (n := l2.length) (i := i) (y := y) (by omega)]; first | done | rfl) | (rw [gpre_add0 (al := wts l1) (up := onlyL ww) (n := l2.length) (i := i) (y := y) (by omega) (.inl (by omega))]; first | done | rfl) | (rw [gpre_add0 (al := wts l1) (up := onlyL ww) (n := l2.length) (i := i) (y := y) (by omega) (.inr (by omega))]; first | done | rfl)), rfl, by omega, (.inl ⟨rfl, rfl⟩)⟩⟩
       ·refine i_op (a_pick_t rfl rfl rfl ?_) rfl rfl
        refine i_nil (then_n (r_cond_f rfl (r_skip (then_n (r_items (i_ld rfl (.next (.next (.next (.next (.next .here))))) rfl rfl rfl (i_mv rfl rfl rfl ?_)))))))
        refine i_op (a_lit rfl rfl rfl (fun b53 => ?_)) rfl rfl
        refine i_op (a_app rfl rfl (Src.own .here rfl (by simp)) (.next (.next .here)) (by rw [ints_len, gpre_len, Nat.mul_one]) (tight_of hT2) (by decide) (by omega) (by omega) (fun b54 => ?_)) rfl rfl
        refine i_opn (a_st rfl rfl (.next (.next (.next (.next (.next (.next .here)))))) rfl rfl ?_) rfl
        refine i_nil (block_n ?_)
        refine ⟨_, (.next (.next (.next .here))), ?_⟩
        refine i_op (a_not rfl ?_) rfl rfl
        refine i_nil (then_n (r_cond_f rfl (r_skip (block_n (then_n (r_items ?_))))))
        refine i_op (a_add rfl rfl (by omega) ?_) rfl rfl
        refine i_mv rfl rfl rfl (i_nil (then_n ?_))
        exact ⟨rfl, _, _, _, (show l2.length - (y + 1) < l2.length - y by omega), (lc 0 rfl (lc 1 rfl (lc 3 rfl (lc 4 rfl (lc 8 rfl (lc 9 rfl (lc 14 rfl (lc 15 rfl Less.nil)))))))), (.cons_cons _ (.cons _ (.cons _ (.cons_cons _ (.cons_cons _ (.cons_cons _ (.cons_cons _ (.cons_cons _ (.cons_cons _ (.cons_cons _ .slnil)))))))))), ⟨y + 1, b54, _, _, rfl, (by simp only [List.set_cons_zero]; first | (rw [gpre_add (n := l2.length) (i := i) (y := y) (by omega)]; first | done | rfl) | (rw [gpre_add0 (al := wts l1) (up := onlyL ww) (n := l2.length) (i := i) (y := y) (by omega) (.inl (by omega))]; first | done | rfl) | (rw [gpre_add0 (al := wts l1) (up := onlyL ww) (n := l2.length) (i := i) (y := y) (by omega) (.inr (by omega))]; first | done | rfl)), rfl, by omega, (.inl ⟨rfl, rfl⟩)⟩⟩
      ·refine i_mv rfl rfl rfl (i_no rfl rfl (i_no rfl rfl (i_no rfl rfl (i_no rfl rfl (i_no rfl rfl (i_no rfl rfl ?_))))))
       refine i_op (a_pick_f rfl rfl rfl ?_) rfl rfl
       refine i_nil (then_n (r_cond_f rfl (r_skip (then_n (r_items (i_ld rfl (.next (.next (.next (.next (.next .here))))) rfl rfl rfl (i_mv rfl rfl rfl ?_)))))))
       refine i_op (a_lit rfl rfl rfl (fun b55 => ?_)) rfl rfl
       refine i_op (a_app rfl rfl (Src.own .here rfl (by simp)) (.next (.next .here)) (by rw [ints_len, gpre_len, Nat.mul_one]) (tight_of hT2) (by decide) (by omega) (by omega) (fun b56 => ?_)) rfl rfl
       refine i_opn (a_st rfl rfl (.next (.next (.next (.next (.next (.next .here)))))) rfl rfl ?_) rfl
       refine i_nil (block_n ?_)
       refine ⟨_, (.next (.next (.next .here))), ?_⟩
       refine i_op (a_not rfl ?_) rfl rfl
       refine i_nil (then_n (r_cond_f rfl (r_skip (block_n (then_n (r_items ?_))))))
       refine i_op (a_add rfl rfl (by omega) ?_) rfl rfl
       refine i_mv rfl rfl rfl (i_nil (then_n ?_))
       exact ⟨rfl, _, _, _, (show l2.length - (y + 1) < l2.length - y by omega), (lc 0 rfl (lc 1 rfl (lc 3 rfl (lc 4 rfl (lc 8 rfl (lc 9 rfl (lc 14 rfl (lc 15 rfl Less.nil)))))))), (.cons_cons _ (.cons _ (.cons _ (.cons_cons _ (.cons_cons _ (.cons_cons _ (.cons_cons _ (.cons_cons _ (.cons_cons _ (.cons_cons _ .slnil)))))))))), ⟨y + 1, b56, _, _, rfl, (by simp only [List.set_cons_zero]; first | (rw [gpre_add (n := l2.length) (i := i) (y := y) (by omega)]; first | done | rfl) | (rw [gpre_add0 (al := wts l1) (up := onlyL ww) (n := l2.length) (i := i) (y := y) (by omega) (.inl (by omega))]; first | done | rfl) | (rw [gpre_add0 (al := wts l1) (up := onlyL ww) (n := l2.length) (i := i) (y := y) (by omega) (.inr (by omega))]; first | done | rfl)), rfl, by omega, (.inl ⟨rfl, rfl⟩)⟩⟩
     ·refine i_nil (then_n (r_seq (r_cond_f rfl (r_exit (then_e (then_e (block_hit (block_n (then_n (r_items ?_))))))))))
      refine i_op (a_add rfl rfl (by omega) ?_) rfl rfl
      refine i_mv rfl rfl rfl (i_nil (then_n ?_))
      have hyl : y = l2.length := (by omega)
      subst hyl
      exact ⟨rfl, _, _, _, (show l1.length - (i + 1) < l1.length - i by omega), (lc 0 rfl (lc 1 rfl (lc 3 rfl (lc 8 rfl (lc 9 rfl Less.nil))))), (.cons_cons _ (.cons_cons _ (.cons_cons _ (.cons_cons _ (.cons_cons _ (.cons_cons _ (.cons_cons _ (.cons_cons _ .slnil)))))))), ⟨i + 1, b, _, _, rfl, rfl, rfl, by omega, hT2⟩⟩
    ·refine i_nil (then_n (r_seq (r_cond_f rfl (r_exit (then_e (then_e (block_hit ?_)))))))
     refine endD0n .nil ?_
     refine .inl ⟨_, (.next .here), ?_⟩
     refine block_n (then_n (r_seq (r_items (i_ld rfl (.next (.next (.next .here))) rfl rfl rfl (i_fa rfl rfl rfl (i_ld rfl (.next (.next (.next (.next .here)))) rfl rfl rfl (i_mv rfl rfl rfl (i_mv rfl rfl rfl (i_mv rfl rfl rfl (i_nil (then_n (r_ret ?_))))))))))))
     have hil : i = l1.length := by omega
     subst hil
     obtain ⟨rfl, rfl⟩ := ft_pos hT (Nat.mul_pos (by omega) (by omega))
     exact endD3A rfl rfl rfl (.cons (.next .here) .nil) (.cons_cons _ (.cons _ (.cons _ (.cons _ (.cons _ (.cons _ .slnil)))))) (.inl ⟨by omega, b, rfl, rfl⟩)
   ·refine i_op (a_call rfl rfl (fun s1 h1 => integral_s _ _ _ _ s1 h1.wf (by omega) (hl1.ext hs h1.2.1) hp1) (fun v1 A1 q1 => ?_)) rfl rfl
    obtain ⟨b57, rfl, rfl⟩ := q1
    iterate 2 refine i_opn (a_again rfl rfl (.next (.next .here)) rfl (by simp [eqV, eqA, eqL, kindEq, intEq_eq, eqV_sl hl1.spot, eqV_sl hl2.spot]) ?_) rfl
    refine i_op (a_call rfl rfl (fun s1 h1 => only_s _ ww s1 h1.wf (by omega)) (fun v1 A1 q1 => ?_)) rfl rfl
    obtain ⟨b58, rfl, rfl⟩ := q1
    refine i_opn (a_again rfl rfl (.next (.next (.next .here))) rfl (by simp [eqV, eqA, eqL, kindEq, intEq_eq, eqV_sl hl1.spot, eqV_sl hl2.spot]) ?_) rfl
    refine i_op (a_build rfl rfl ?_) rfl rfl
    refine i_opn (a_sta rfl rfl (.next (.next .here)) rfl rfl rfl rfl ?_) rfl
    refine i_opn (a_again rfl rfl (.next (.next (.next .here))) rfl (by simp [eqV, eqA, eqL, kindEq, intEq_eq, eqV_sl hl1.spot, eqV_sl hl2.spot]) ?_) rfl
    refine i_mv rfl rfl rfl (i_nil (then_n (r_ret ?_)))
    refine endDc rfl (by decide) .nil (.next (.next .here)) rfl rfl ?_
    refine i_mv rfl rfl rfl ?_
    iterate 2 refine i_op (a_ext rfl rfl ?_) rfl rfl
    refine i_op (a_new rfl rfl (fun b59 => ?_)) rfl rfl
    refine i_opn (a_sta rfl rfl .here rfl rfl rfl rfl ?_) rfl
    refine i_mv rfl rfl rfl (i_nil (then_n (r_seq (r_seq (r_items (i_mv rfl rfl rfl ?_))))))
    refine i_op (a_not rfl ?_) rfl rfl
    refine i_nil (then_n (r_cond_t rfl (r_seq (r_items (i_mv rfl rfl rfl (i_mv rfl rfl rfl (i_mv rfl rfl rfl (i_nil (then_n (r_ret (then_r ?_)))))))))))
    refine endD3A rfl rfl rfl .nil (List.nil_sublist _) (.inr ⟨?_, rfl, rfl⟩)
    first | omega | (intro h; omega)
  ·refine i_op (a_not rfl ?_) rfl rfl
   refine i_op (a_pick_f rfl rfl rfl ?_) rfl rfl
   refine i_nil (then_n (r_cond_t rfl (r_seq (r_items (i_mv rfl rfl rfl (i_mv rfl rfl rfl (i_mv rfl rfl rfl (i_nil (then_n (r_ret (then_r ?_)))))))))))
   refine endD3A rfl rfl rfl .nil (List.nil_sublist _) (.inr ⟨?_, rfl, rfl⟩)
   first | omega | (intro h; omega)
 ·subst hkey
  refine i_mv rfl rfl rfl ?_
  iterate 2 refine i_op (a_ext rfl rfl ?_) rfl rfl
  refine i_mv rfl rfl rfl (i_mv rfl rfl rfl (i_nil (then_n (r_seq (r_seq (r_items (i_mv rfl rfl rfl ?_)))))))
  refine i_op (a_not rfl ?_) rfl rfl
  refine i_mv rfl rfl rfl ?_
  refine i_op (a_lda rfl (by decide) (.next (.next .here)) rfl ?_) rfl rfl
  refine i_fa rfl rfl rfl (i_ld rfl (.next .here) rfl rfl rfl (i_fa rfl rfl rfl (i_ld rfl (.next .here) rfl rfl rfl ?_)))
  refine i_op (a_callB rfl rfl (fun s1 h1 => has_s _ _ _ _ _ _ _ _ _ _ _ _ _ s1 h1.wf (by omega) (hl1.ext hs h1.2.1) (hl2.ext hs h1.2.1)) (fun h60 => ?_) (fun h60 => ?_)) rfl rfl
  ·have hhas := h60
   obtain ⟨ws, rfl⟩ : ∃ q : Nat, ws = (q : Int) := ⟨ws.toNat, by omega⟩
   obtain ⟨ww, rfl⟩ : ∃ q : Nat, ww = (q : Int) := ⟨ww.toNat, by omega⟩
   have ho1 := onlyL_len (x := ws)
   have ho2 := onlyL_len (x := ww)
   have hw1 := wts_len (l := l1)
   have hw2 := wts_len (l := l2)
   have hw3 := wts_len (l := l2.take (ww + 1))
   have hw4 : (l2.take (ww + 1)).length = ww + 1 := by rw [List.length_take]; omega
   refine i_op (a_not rfl ?_) rfl rfl
   refine i_op (a_pick_f rfl rfl rfl ?_) rfl rfl
   refine i_nil (then_n (r_cond_f rfl (r_skip (then_n (r_seq (r_items (i_mv rfl rfl rfl ?_)))))))
   refine i_op (a_lda rfl (by decide) (.next (.next .here)) rfl ?_) rfl rfl
   refine i_op (a_lda rfl (by decide) (.next .here) rfl ?_) rfl rfl
   refine i_op (a_build rfl rfl ?_) rfl rfl
   refine i_op (a_inl rfl rfl bw132_at rfl ?_) rfl rfl
   unfold bw132
   refine r_seq (r_items ?_)
   refine i_op (a_box rfl rfl rfl (fun b61 => ?_)) rfl rfl
   refine i_op (a_new rfl rfl (fun b62 => ?_)) rfl rfl
   refine i_mv rfl rfl rfl (i_nil (then_n (r_seq (r_items ?_))))
   iterate 2 refine i_fa rfl rfl rfl ?_
   refine i_ld rfl (.next .here) rfl rfl rfl ?_
   iterate 2 refine i_fa rfl rfl rfl ?_
   refine i_ld rfl (.next .here) rfl rfl rfl ?_
   iterate 2 refine i_fa rfl rfl rfl ?_
   refine i_ld rfl (.next .here) rfl rfl rfl ?_
   refine i_op (a_eql rfl rfl (fun h63 => ?_) (fun h63 => ?_)) rfl rfl
   ·refine i_op (a_call rfl rfl (fun s1 h1 => only_s _ ws s1 h1.wf (by omega)) (fun v1 A1 q1 => ?_)) rfl rfl
    obtain ⟨b64, rfl, rfl⟩ := q1
    iterate 2 refine i_opn (a_again rfl rfl (.next (.next .here)) rfl (by simp [eqV, eqA, eqL, kindEq, intEq_eq, eqV_sl hl1.spot, eqV_sl hl2.spot]) ?_) rfl
    refine i_op (a_call rfl rfl (fun s1 h1 => integral_s _ _ _ _ s1 h1.wf (by omega) (hl2.ext hs h1.2.1) hp2) (fun v1 A1 q1 => ?_)) rfl rfl
    obtain ⟨b65, rfl, rfl⟩ := q1
    refine i_opn (a_again rfl rfl (.next (.next (.next .here))) rfl (by simp [eqV, eqA, eqL, kindEq, intEq_eq, eqV_sl hl1.spot, eqV_sl hl2.spot]) ?_) rfl
    refine i_op (a_build rfl rfl ?_) rfl rfl
    refine i_opn (a_sta rfl rfl (.next (.next .here)) rfl rfl rfl rfl ?_) rfl
    refine i_opn (a_again rfl rfl (.next (.next (.next .here))) rfl (by simp [eqV, eqA, eqL, kindEq, intEq_eq, eqV_sl hl1.spot, eqV_sl hl2.spot]) ?_) rfl
    refine i_mv rfl rfl rfl (i_nil (then_n (r_ret ?_)))
    refine endDc rfl (by decide) .nil (.next (.next .here)) rfl rfl ?_
    refine i_mv rfl rfl rfl ?_
    iterate 2 refine i_op (a_ext rfl rfl ?_) rfl rfl
    refine i_op (a_new rfl rfl (fun b66 => ?_)) rfl rfl
    refine i_opn (a_sta rfl rfl .here rfl rfl rfl rfl ?_) rfl
    refine i_mv rfl rfl rfl (i_nil (then_n (r_seq (r_seq (r_items (i_mv rfl rfl rfl ?_))))))
    refine i_op (a_not rfl ?_) rfl rfl
    refine i_nil (then_n (r_cond_f rfl (r_skip (then_n (r_seq (r_items ?_))))))
    refine i_op (a_lit rfl rfl rfl (fun b67 => ?_)) rfl rfl
    refine i_op (a_new rfl rfl (fun b68 => ?_)) rfl rfl
    refine i_opn (a_st rfl rfl .here rfl rfl ?_) rfl
    refine i_nil (then_n (r_seq (r_seq (r_items ?_))))
    refine i_op (a_lda rfl (by decide) (.next (.next (.next (.next (.next (.next (.next (.next (.next .here))))))))) rfl ?_) rfl rfl
    refine i_op (a_inl rfl rfl bw92_at rfl ?_) rfl rfl
    unfold bw92
    refine r_seq (r_items ?_)
    refine i_op (a_box rfl rfl rfl (fun b69 => ?_)) rfl rfl
    refine i_mv rfl rfl rfl (i_nil (then_n (r_seq (r_items ?_))))
    refine i_op (a_fn rfl rfl ?_) rfl rfl
    refine i_mv rfl rfl rfl (i_nil (then_n (r_ret ?_)))
    refine endD1 rfl .nil ?_
    refine i_nil (then_n (r_block ?_))
    refine r_rangeV rfl bw134_at rfl (fun q70 l71 LO72 BO73 hLO72 hBO73 => ?_)
    unfold bw134
    refine r_front (.next (.next (.next (.next .here)))) ?_
    refine r_seq (r_items (i_mv rfl rfl rfl (i_nil (then_n (r_seq (r_items (i_fa rfl rfl rfl (i_ld rfl (.next (.next (.next .here))) rfl rfl rfl ?_))))))))
    refine i_op (a_lenx rfl hl1.spot ?_) rfl rfl
    refine i_mv rfl rfl rfl (i_nil (then_n (r_block ?_)))
    refine r_loop (fun j e A => ∃ (i b cp : Nat) (op : Bool), e = [(0, .func (.yield l71) ⟨[]⟩ ⟨[]⟩), (1, .pointer (some ⟨b69, 0, none⟩)), (3, .int .i64 ((l2.length * i : Nat) : Int)), (8, .int .i64 (l1.length : Int)), (9, .int .i64 (i : Int))] ∧ A = (.row b 3 op (ints (gpre (onlyL ws) (wts l2) l2.length (l2.length * i))) :: (LO72 :: (.dfr q70 :: (.row b69 33 false ([.int .i64 d, .int .i64 r, .slice a1 l1.length c1, .slice a2 l2.length c2, .int .i64 al, .int .i64 up]) :: (.row b68 22 false ([.slice (some ⟨b, 0, none⟩) (l2.length * i + 1) cp]) :: (.row b66 147 false ([.slice (some ⟨b64, 0, none⟩) (ws + 1) (ws + 1), .slice (some ⟨b65, 0, none⟩) (l2.length) (l2.length), .int .i64 180000]) :: (.row b65 3 false (ints (wts l2)) :: (.row b64 3 false (ints (onlyL ws)) :: [])))))))) ∧ j = l1.length - i ∧ i ≤ l1.length ∧ FT op cp (l2.length * i)) 700 281474976710656 281474976710656 ?_ (j := _) (env2 := _) (A2 := _) ?_ ?_ ?_ ?_ ⟨0, b67, 1, false, rfl, rfl, rfl, by omega, (.inr ⟨rfl, rfl, rfl⟩)⟩
    rotate_left
    ·omega
    ·omega
    ·exact (Less.cons rfl (Less.cons rfl (Less.cons rfl (Less.cons rfl (Less.cons rfl Less.nil)))))
    ·exact (.cons_cons _ (.cons_cons _ (.cons_cons _ (.cons_cons _ (.cons_cons _ (.cons_cons _ (.cons_cons _ (.cons_cons _ (.cons _ (.cons _ (.cons _ (.cons _ (.cons _ .slnil)))))))))))))
    rintro n hn j _ _ ⟨i, b, cp, op, rfl, rfl, rfl, hi, hT⟩
    have hq9 := mul_sm (x := (l2.length : Int)) (y := (i : Int)) (by omega) (by omega)
    have hq8 : ((l2.length * i : Nat) : Int) = (l2.length : Int) * (i : Int) := by simp
    refine r_seq (r_items ?_)
    refine i_op (a_lss rfl rfl (fun h74 => ?_) (fun h74 => ?_)) rfl rfl
    ·refine i_nil (then_n (r_seq (r_cond_t rfl (r_skip (then_n (r_seq (r_block (r_seq (r_items (i_mv rfl rfl rfl (i_mv rfl rfl rfl (i_nil (then_n (r_seq (r_items (i_fa rfl rfl rfl (i_ld rfl (.next (.next (.next .here))) rfl rfl rfl ?_)))))))))))))))))
     refine i_op (a_lenx rfl hl2.spot ?_) rfl rfl
     refine i_mv rfl rfl rfl (i_nil (then_n (r_block ?_)))
     refine r_loop (fun j e A => ∃ (y b cp : Nat) (op : Bool), e = [(0, .func (.yield l71) ⟨[]⟩ ⟨[]⟩), (1, .pointer (some ⟨b69, 0, none⟩)), (3, .int .i64 ((l2.length * i + y : Nat) : Int)), (4, .int .i64 (i : Int)), (8, .int .i64 (l1.length : Int)), (9, .int .i64 (i : Int)), (14, .int .i64 (l2.length : Int)), (15, .int .i64 (y : Int))] ∧ A = (.row b 3 op (ints (gpre (onlyL ws) (wts l2) l2.length (l2.length * i + y))) :: (LO72 :: (.dfr q70 :: (.row b69 33 false ([.int .i64 d, .int .i64 r, .slice a1 l1.length c1, .slice a2 l2.length c2, .int .i64 al, .int .i64 up]) :: (.row b68 22 false ([.slice (some ⟨b, 0, none⟩) (l2.length * i + y + 1) cp]) :: (.row b66 147 false ([.slice (some ⟨b64, 0, none⟩) (ws + 1) (ws + 1), .slice (some ⟨b65, 0, none⟩) (l2.length) (l2.length), .int .i64 180000]) :: (.row b65 3 false (ints (wts l2)) :: (.row b64 3 false (ints (onlyL ws)) :: [])))))))) ∧ j = l2.length - y ∧ y ≤ l2.length ∧ FT op cp (l2.length * i + y)) 500 0 281474976710656 ?_ (j := _) (env2 := _) (A2 := _) ?_ ?_ ?_ ?_ ⟨0, b, cp, op, rfl, rfl, rfl, by omega, hT⟩
     rotate_left
     ·omega
     ·omega
     ·exact (Less.cons rfl (Less.cons rfl (Less.cons rfl (Less.cons rfl (Less.cons rfl (Less.cons rfl (Less.cons rfl (Less.cons rfl Less.nil))))))))
     ·exact (.cons_cons _ (.cons_cons _ (.cons_cons _ (.cons_cons _ (.cons_cons _ (.cons_cons _ (.cons_cons _ (.cons_cons _ .slnil))))))))
     rintro n hn j _ _ ⟨y, b, cp, op, rfl, rfl, rfl, hy, hT2⟩
     refine r_seq (r_items ?_)
     refine i_op (a_lss rfl rfl (fun h75 => ?_) (fun h75 => ?_)) rfl rfl
     ·refine i_nil (then_n (r_seq (r_cond_t rfl (r_skip (then_n (r_seq (r_block (r_seq (r_items (i_mv rfl rfl rfl (i_mv rfl rfl rfl (i_nil (then_n (r_seq (r_items (i_mv rfl rfl rfl ?_))))))))))))))))
      refine i_op (a_add rfl rfl (by omega) ?_) rfl rfl
      refine i_mv rfl rfl rfl (i_nil (then_n (r_seq (r_items (i_mv rfl rfl rfl (i_mv rfl rfl rfl (i_mv rfl rfl rfl (i_mv rfl rfl rfl ?_))))))))
      refine i_op (a_build rfl rfl ?_) rfl rfl
      refine i_op (a_yieldV rfl rfl hLO72 hBO73 (by simp) rfl rfl ?_) rfl rfl
      refine r_items ?_
      refine i_op (a_new rfl rfl (fun b76 => ?_)) rfl rfl
      refine i_opn (a_sta rfl rfl .here rfl rfl rfl rfl ?_) rfl
      refine i_nil ?_
      refine ⟨_, (.next (.next .here)), ?_⟩
      refine r_block (r_seq (r_items (i_mv rfl rfl rfl (i_nil (then_n (r_seq (r_seq (r_items (i_fa rfl rfl rfl (i_ld rfl .here rfl rfl rfl (i_fa rfl rfl rfl (i_ld rfl (.next (.next (.next (.next (.next (.next .here)))))) rfl rfl rfl ?_))))))))))))
      refine i_op (a_len rfl ?_) rfl rfl
      refine i_op (a_lss rfl rfl (fun h77 => ?_) (fun h77 => ?_)) rfl rfl
      ·refine i_mv rfl rfl rfl (i_fa rfl rfl rfl (i_ld rfl .here rfl rfl rfl (i_fa rfl rfl rfl (i_ld rfl (.next (.next (.next (.next (.next (.next .here)))))) rfl rfl rfl ?_))))
       refine i_op (a_len rfl ?_) rfl rfl
       refine i_op (a_lss rfl rfl (fun h78 => ?_) (fun h78 => ?_)) rfl rfl
       ·refine i_op (a_pick_t rfl rfl rfl ?_) rfl rfl
        refine i_nil (then_n (r_cond_t rfl (r_items (i_fa rfl rfl rfl (i_ld rfl (.next (.next (.next (.next (.next (.next .here)))))) rfl rfl rfl (i_fa rfl rfl rfl (i_ld rfl .here rfl rfl rfl ?_)))))))
        refine i_op (a_ia (j := i) rfl rfl (by omega) (by omega) ?_) rfl rfl
        refine i_op (a_ldI rfl (.next (.next (.next (.next (.next (.next (.next (.next .here)))))))) (by first | omega | (simp; done) | (simp; omega)) ?_) rfl rfl
        refine i_fa rfl rfl rfl (i_ld rfl (.next (.next (.next (.next (.next (.next .here)))))) rfl rfl rfl (i_fa rfl rfl rfl (i_ld rfl .here rfl rfl rfl ?_)))
        refine i_op (a_ia (j := y) rfl rfl (by omega) (by omega) ?_) rfl rfl
        refine i_op (a_ldI rfl (.next (.next (.next (.next (.next (.next (.next .here))))))) (by first | omega | (simp; done) | (simp; omega)) ?_) rfl rfl
        refine i_op (a_mul rfl rfl (mul_bd (by first | exact wts_bd hp1 _ | exact only_bd _ _) (by first | exact wts_bd hp2 _ | exact wts_bd (plc_take hp2 (by omega) (by omega)) _ | exact only_bd _ _)) ?_) rfl rfl
        refine i_mv rfl rfl rfl (i_nil (then_n (r_items (i_ld rfl (.next (.next (.next (.next (.next .here))))) rfl rfl rfl (i_mv rfl rfl rfl ?_)))))
        refine i_op (a_lit rfl rfl rfl (fun b79 => ?_)) rfl rfl
        refine i_op (a_app rfl rfl (Src.own .here rfl (by simp)) (.next (.next .here)) (by rw [ints_len, gpre_len, Nat.mul_one]) (tight_of hT2) (by decide) (by omega) (by omega) (fun b80 => ?_)) rfl rfl
        refine i_opn (a_st rfl rfl (.next (.next (.next (.next (.next (.next .here)))))) rfl rfl ?_) rfl
        refine i_nil (block_n ?_)
        refine ⟨_, (.next (.next (.next .here))), ?_⟩
        refine i_op (a_not rfl ?_) rfl rfl
        refine i_nil (then_n (r_cond_f rfl (r_skip (block_n (then_n (r_items ?_))))))
        refine i_op (a_add rfl rfl (by omega) ?_) rfl rfl
        refine i_mv rfl rfl rfl (i_nil (then_n ?_))
        exact ⟨rfl, _, _, _, (show l2.length - (y + 1) < l2.length - y by omega), (lc 0 rfl (lc 1 rfl (lc 3 rfl (lc 4 rfl (lc 8 rfl (lc 9 rfl (lc 14 rfl (lc 15 rfl Less.nil)))))))), (.cons_cons _ (.cons _ (.cons _ (.cons_cons _ (.cons_cons _ (.cons_cons _ (.cons_cons _ (.cons_cons _ (.cons_cons _ (.cons_cons _ .slnil)))))))))), ⟨y + 1, b80, _, _, rfl, (by simp only [List.set_cons_zero]; first | (rw [gpre_add (n := l2.length) (i := i) (y := y) (by omega)]; first | done | rfl) | (rw [gpre_add0 (al := onlyL ws) (up := wts l2) (n := l2.length) (i := i) (y := y) (by omega) (.inl (by omega))]; first | done | rfl) | (rw [gpre_add0 (al := onlyL ws) (up := wts l2) (n := l2.length) (i := i) (y := y) (by omega) (.inr (by omega))]; first | done | rfl)), rfl, by omega, (.inl ⟨rfl, rfl⟩)⟩⟩
       ·refine i_op (a_pick_t rfl rfl rfl ?_) rfl rfl
        refine i_nil (then_n (r_cond_f rfl (r_skip (then_n (r_items (i_ld rfl (.next (.next (.next (.next (.next .here))))) rfl rfl rfl (i_mv rfl rfl rfl ?_)))))))
        refine i_op (a_lit rfl rfl rfl (fun b81 => ?_)) rfl rfl
        refine i_op (a_app rfl rfl (Src.own .here rfl (by simp)) (.next (.next .here)) (by rw [ints_len, gpre_len, Nat.mul_one]) (tight_of hT2) (by decide) (by omega) (by omega) (fun b82 => ?_)) rfl rfl
        refine i_opn (a_st rfl rfl (.next (.next (.next (.next (.next (.next .here)))))) rfl rfl ?_) rfl
        refine i_nil (block_n ?_)
        refine ⟨_, (.next (.next (.next .here))), ?_⟩
        refine i_op (a_not rfl ?_) rfl rfl
        refine i_nil (then_n (r_cond_f rfl (r_skip (block_n (then_n (r_items ?_))))))
        refine i_op (a_add rfl rfl (by omega) ?_) rfl rfl
        refine i_mv rfl rfl rfl (i_nil (then_n ?_))
        exact ⟨rfl, _, _, _, (show l2.length - (y + 1) < l2.length - y by omega), (lc 0 rfl (lc 1 rfl (lc 3 rfl (lc 4 rfl (lc 8 rfl (lc 9 rfl (lc 14 rfl (lc 15 rfl Less.nil)))))))), (.cons_cons _ (.cons _ (.cons _ (.cons_cons _ (.cons_cons _ (.cons_cons _ (.cons_cons _ (.cons_cons _ (.cons_cons _ (.cons_cons _ .slnil)))))))))), ⟨y + 1, b82, _, _, rfl, (by simp only [List.set_cons_zero]; first | (rw [gpre_add (n := l2.length) (i := i) (y := y) (by omega)]; first | done | rfl) | (rw [gpre_add0 (al := onlyL ws) (up := wts l2) (n := l2.length) (i := i) (y := y) (by omega) (.inl (by omega))]; first | done | rfl) | (rw [gpre_add0 (al := onlyL ws) (up := wts l2) (n := l2.length) (i := i) (y := y) (by omega) (.inr (by omega))]; first | done | rfl)), rfl, by omega, (.inl ⟨rfl, rfl⟩)⟩⟩
      ·refine i_mv rfl rfl rfl (i_no rfl rfl (i_no rfl rfl (i_no rfl rfl (i_no rfl rfl (i_no rfl rfl (i_no rfl rfl ?_))))))
       refine i_op (a_pick_f rfl rfl rfl ?_) rfl rfl
       refine i_nil (then_n (r_cond_f rfl (r_skip (then_n (r_items (i_ld rfl (.next (.next (.next (.next (.next .here))))) rfl rfl rfl (i_mv rfl rfl rfl ?_)))))))
       refine i_op (a_lit rfl rfl rfl (fun b83 => ?_)) rfl rfl
       refine i_op (a_app rfl rfl (Src.own .here rfl (by simp)) (.next (.next .here)) (by rw [ints_len, gpre_len, Nat.mul_one]) (tight_of hT2) (by decide) (by omega) (by omega) (fun b84 => ?_)) rfl rfl
       refine i_opn (a_st rfl rfl (.next (.next (.next (.next (.next (.next .here)))))) rfl rfl ?_) rfl
       refine i_nil (block_n ?_)
       refine ⟨_, (.next (.next (.next .here))), ?_⟩
       refine i_op (a_not rfl ?_) rfl rfl
       refine i_nil (then_n (r_cond_f rfl (r_skip (block_n (then_n (r_items ?_))))))
       refine i_op (a_add rfl rfl (by omega) ?_) rfl rfl
       refine i_mv rfl rfl rfl (i_nil (then_n ?_))
       exact ⟨rfl, _, _, _, (show l2.length - (y + 1) < l2.length - y by omega), (lc 0 rfl (lc 1 rfl (lc 3 rfl (lc 4 rfl (lc 8 rfl (lc 9 rfl (lc 14 rfl (lc 15 rfl Less.nil)))))))), (.cons_cons _ (.cons _ (.cons _ (.cons_cons _ (.cons_cons _ (.cons_cons _ (.cons_cons _ (.cons_cons _ (.cons_cons _ (.cons_cons _ .slnil)))))))))), ⟨y + 1, b84, _, _, rfl, (by simp only [List.set_cons_zero]; first | (rw [gpre_add (n := l2.length) (i := i) (y := y) (by omega)]; first | done | rfl) | (rw [gpre_add0 (al := onlyL ws) (up := wts l2) (n := l2.length) (i := i) (y := y) (by omega) (.inl (by omega))]; first | done | rfl) | (rw [gpre_add0 (al := onlyL ws) (up := wts l2) (n := l2.length) (i := i) (y := y) (by omega) (.inr (by omega))]; first | done | rfl)), rfl, by omega, (.inl ⟨rfl, rfl⟩)⟩⟩
     ·refine i_nil (then_n (r_seq (r_cond_f rfl (r_exit (then_e (then_e (block_hit (block_n (then_n (r_items ?_))))))))))
      refine i_op (a_add rfl rfl (by omega) ?_) rfl rfl
      refine i_mv rfl rfl rfl (i_nil (then_n ?_))
      have hyl : y = l2.length := (by omega)
      subst hyl
      exact ⟨rfl, _, _, _, (show l1.length - (i + 1) < l1.length - i by omega), (lc 0 rfl (lc 1 rfl (lc 3 rfl (lc 8 rfl (lc 9 rfl Less.nil))))), (.cons_cons _ (.cons_cons _ (.cons_cons _ (.cons_cons _ (.cons_cons _ (.cons_cons _ (.cons_cons _ (.cons_cons _ .slnil)))))))), ⟨i + 1, b, _, _, rfl, rfl, rfl, by omega, hT2⟩⟩
    ·refine i_nil (then_n (r_seq (r_cond_f rfl (r_exit (then_e (then_e (block_hit ?_)))))))
     refine endD0n .nil ?_
     refine .inl ⟨_, (.next .here), ?_⟩
     refine block_n (then_n (r_seq (r_items (i_ld rfl (.next (.next (.next .here))) rfl rfl rfl (i_fa rfl rfl rfl (i_ld rfl (.next (.next (.next (.next .here)))) rfl rfl rfl (i_mv rfl rfl rfl (i_mv rfl rfl rfl (i_mv rfl rfl rfl (i_nil (then_n (r_ret ?_))))))))))))
     have hil : i = l1.length := by omega
     subst hil
     obtain ⟨rfl, rfl⟩ := ft_pos hT (Nat.mul_pos (by omega) (by omega))
     exact endD3A rfl rfl rfl (.cons (.next .here) .nil) (.cons_cons _ (.cons _ (.cons _ (.cons _ (.cons _ (.cons _ .slnil)))))) (.inl ⟨by omega, b, rfl, rfl⟩)
   ·refine i_op (a_call rfl rfl (fun s1 h1 => only_s _ ws s1 h1.wf (by omega)) (fun v1 A1 q1 => ?_)) rfl rfl
    obtain ⟨b85, rfl, rfl⟩ := q1
    iterate 2 refine i_opn (a_again rfl rfl (.next (.next .here)) rfl (by simp [eqV, eqA, eqL, kindEq, intEq_eq, eqV_sl hl1.spot, eqV_sl hl2.spot]) ?_) rfl
    refine i_op (a_call rfl rfl (fun s1 h1 => integral_s _ _ _ _ s1 h1.wf (by omega) (hl2.ext hs h1.2.1) hp2) (fun v1 A1 q1 => ?_)) rfl rfl
    obtain ⟨b86, rfl, rfl⟩ := q1
    refine i_opn (a_again rfl rfl (.next (.next (.next .here))) rfl (by simp [eqV, eqA, eqL, kindEq, intEq_eq, eqV_sl hl1.spot, eqV_sl hl2.spot]) ?_) rfl
    refine i_op (a_build rfl rfl ?_) rfl rfl
    refine i_opn (a_sta rfl rfl (.next (.next .here)) rfl rfl rfl rfl ?_) rfl
    refine i_opn (a_again rfl rfl (.next (.next (.next .here))) rfl (by simp [eqV, eqA, eqL, kindEq, intEq_eq, eqV_sl hl1.spot, eqV_sl hl2.spot]) ?_) rfl
    refine i_mv rfl rfl rfl (i_nil (then_n (r_ret ?_)))
    refine endDc rfl (by decide) .nil (.next (.next .here)) rfl rfl ?_
    refine i_mv rfl rfl rfl ?_
    iterate 2 refine i_op (a_ext rfl rfl ?_) rfl rfl
    refine i_op (a_new rfl rfl (fun b87 => ?_)) rfl rfl
    refine i_opn (a_sta rfl rfl .here rfl rfl rfl rfl ?_) rfl
    refine i_mv rfl rfl rfl (i_nil (then_n (r_seq (r_seq (r_items (i_mv rfl rfl rfl ?_))))))
    refine i_op (a_not rfl ?_) rfl rfl
    refine i_nil (then_n (r_cond_t rfl (r_seq (r_items (i_mv rfl rfl rfl (i_mv rfl rfl rfl (i_mv rfl rfl rfl (i_nil (then_n (r_ret (then_r ?_)))))))))))
    refine endD3A rfl rfl rfl .nil (List.nil_sublist _) (.inr ⟨?_, rfl, rfl⟩)
    first | omega | (intro h; omega)
  ·refine i_op (a_not rfl ?_) rfl rfl
   refine i_op (a_pick_f rfl rfl rfl ?_) rfl rfl
   refine i_nil (then_n (r_cond_t rfl (r_seq (r_items (i_mv rfl rfl rfl (i_mv rfl rfl rfl (i_mv rfl rfl rfl (i_nil (then_n (r_ret (then_r ?_)))))))))))
   refine endD3A rfl rfl rfl .nil (List.nil_sublist _) (.inr ⟨?_, rfl, rfl⟩)
   first | omega | (intro h; omega)
 ·subst hkey
  refine i_mv rfl rfl rfl ?_
  iterate 2 refine i_op (a_ext rfl rfl ?_) rfl rfl
  refine i_mv rfl rfl rfl (i_mv rfl rfl rfl (i_nil (then_n (r_seq (r_seq (r_items (i_mv rfl rfl rfl ?_)))))))
  refine i_op (a_not rfl ?_) rfl rfl
  refine i_mv rfl rfl rfl ?_
  refine i_op (a_lda rfl (by decide) (.next (.next .here)) rfl ?_) rfl rfl
  refine i_fa rfl rfl rfl (i_ld rfl (.next .here) rfl rfl rfl (i_fa rfl rfl rfl (i_ld rfl (.next .here) rfl rfl rfl ?_)))
  refine i_op (a_callB rfl rfl (fun s1 h1 => has_s _ _ _ _ _ _ _ _ _ _ _ _ _ s1 h1.wf (by omega) (hl1.ext hs h1.2.1) (hl2.ext hs h1.2.1)) (fun h88 => ?_) (fun h88 => ?_)) rfl rfl
  ·have hhas := h88
   obtain ⟨ws, rfl⟩ : ∃ q : Nat, ws = (q : Int) := ⟨ws.toNat, by omega⟩
   obtain ⟨ww, rfl⟩ : ∃ q : Nat, ww = (q : Int) := ⟨ww.toNat, by omega⟩
   have ho1 := onlyL_len (x := ws)
   have ho2 := onlyL_len (x := ww)
   have hw1 := wts_len (l := l1)
   have hw2 := wts_len (l := l2)
   have hw3 := wts_len (l := l2.take (ww + 1))
   have hw4 : (l2.take (ww + 1)).length = ww + 1 := by rw [List.length_take]; omega
   refine i_op (a_not rfl ?_) rfl rfl
   refine i_op (a_pick_f rfl rfl rfl ?_) rfl rfl
   refine i_nil (then_n (r_cond_f rfl (r_skip (then_n (r_seq (r_items (i_mv rfl rfl rfl ?_)))))))
   refine i_op (a_lda rfl (by decide) (.next (.next .here)) rfl ?_) rfl rfl
   refine i_op (a_lda rfl (by decide) (.next .here) rfl ?_) rfl rfl
   refine i_op (a_build rfl rfl ?_) rfl rfl
   refine i_op (a_inl rfl rfl bw133_at rfl ?_) rfl rfl
   unfold bw133
   refine r_seq (r_items ?_)
   refine i_op (a_box rfl rfl rfl (fun b89 => ?_)) rfl rfl
   refine i_op (a_new rfl rfl (fun b90 => ?_)) rfl rfl
   refine i_mv rfl rfl rfl (i_nil (then_n (r_seq (r_items ?_))))
   iterate 2 refine i_fa rfl rfl rfl ?_
   refine i_ld rfl (.next .here) rfl rfl rfl ?_
   iterate 2 refine i_fa rfl rfl rfl ?_
   refine i_ld rfl (.next .here) rfl rfl rfl ?_
   refine i_op (a_call rfl rfl (fun s1 h1 => only_s _ ws s1 h1.wf (by omega)) (fun v1 A1 q1 => ?_)) rfl rfl
   obtain ⟨b91, rfl, rfl⟩ := q1
   refine i_opn (a_again rfl rfl (.next (.next .here)) rfl (by simp [eqV, eqA, eqL, kindEq, intEq_eq, eqV_sl hl1.spot, eqV_sl hl2.spot]) ?_) rfl
   refine i_op (a_call rfl rfl (fun s1 h1 => only_s _ ww s1 h1.wf (by omega)) (fun v1 A1 q1 => ?_)) rfl rfl
   obtain ⟨b92, rfl, rfl⟩ := q1
   refine i_op (a_build rfl rfl ?_) rfl rfl
   refine i_opn (a_sta rfl rfl (.next (.next .here)) rfl rfl rfl rfl ?_) rfl
   refine i_mv rfl rfl rfl (i_nil (then_n (r_ret ?_)))
   refine endDc rfl (by decide) .nil (.next (.next .here)) rfl rfl ?_
   refine i_mv rfl rfl rfl ?_
   iterate 2 refine i_op (a_ext rfl rfl ?_) rfl rfl
   refine i_op (a_new rfl rfl (fun b93 => ?_)) rfl rfl
   refine i_opn (a_sta rfl rfl .here rfl rfl rfl rfl ?_) rfl
   refine i_mv rfl rfl rfl (i_nil (then_n (r_seq (r_seq (r_items (i_mv rfl rfl rfl ?_))))))
   refine i_op (a_not rfl ?_) rfl rfl
   refine i_nil (then_n (r_cond_f rfl (r_skip (then_n (r_seq (r_items ?_))))))
   refine i_op (a_lit rfl rfl rfl (fun b94 => ?_)) rfl rfl
   refine i_op (a_new rfl rfl (fun b95 => ?_)) rfl rfl
   refine i_opn (a_st rfl rfl .here rfl rfl ?_) rfl
   refine i_nil (then_n (r_seq (r_seq (r_items ?_))))
   refine i_op (a_lda rfl (by decide) (.next (.next (.next (.next (.next (.next (.next (.next (.next .here))))))))) rfl ?_) rfl rfl
   refine i_op (a_inl rfl rfl bw92_at rfl ?_) rfl rfl
   unfold bw92
   refine r_seq (r_items ?_)
   refine i_op (a_box rfl rfl rfl (fun b96 => ?_)) rfl rfl
   refine i_mv rfl rfl rfl (i_nil (then_n (r_seq (r_items ?_))))
   refine i_op (a_fn rfl rfl ?_) rfl rfl
   refine i_mv rfl rfl rfl (i_nil (then_n (r_ret ?_)))
   refine endD1 rfl .nil ?_
   refine i_nil (then_n (r_block ?_))
   refine r_rangeV rfl bw134_at rfl (fun q97 l98 LO99 BO100 hLO99 hBO100 => ?_)
   unfold bw134
   refine r_front (.next (.next (.next (.next .here)))) ?_
   refine r_seq (r_items (i_mv rfl rfl rfl (i_nil (then_n (r_seq (r_items (i_fa rfl rfl rfl (i_ld rfl (.next (.next (.next .here))) rfl rfl rfl ?_))))))))
   refine i_op (a_lenx rfl hl1.spot ?_) rfl rfl
   refine i_mv rfl rfl rfl (i_nil (then_n (r_block ?_)))
   refine r_loop (fun j e A => ∃ (i b cp : Nat) (op : Bool), e = [(0, .func (.yield l98) ⟨[]⟩ ⟨[]⟩), (1, .pointer (some ⟨b96, 0, none⟩)), (3, .int .i64 ((l2.length * i : Nat) : Int)), (8, .int .i64 (l1.length : Int)), (9, .int .i64 (i : Int))] ∧ A = (.row b 3 op (ints (gpre (onlyL ws) (onlyL ww) l2.length (l2.length * i))) :: (LO99 :: (.dfr q97 :: (.row b96 33 false ([.int .i64 d, .int .i64 r, .slice a1 l1.length c1, .slice a2 l2.length c2, .int .i64 al, .int .i64 up]) :: (.row b95 22 false ([.slice (some ⟨b, 0, none⟩) (l2.length * i + 1) cp]) :: (.row b93 147 false ([.slice (some ⟨b91, 0, none⟩) (ws + 1) (ws + 1), .slice (some ⟨b92, 0, none⟩) (ww + 1) (ww + 1), .int .i64 1]) :: (.row b92 3 false (ints (onlyL ww)) :: (.row b91 3 false (ints (onlyL ws)) :: [])))))))) ∧ j = l1.length - i ∧ i ≤ l1.length ∧ FT op cp (l2.length * i)) 700 281474976710656 281474976710656 ?_ (j := _) (env2 := _) (A2 := _) ?_ ?_ ?_ ?_ ⟨0, b94, 1, false, rfl, rfl, rfl, by omega, (.inr ⟨rfl, rfl, rfl⟩)⟩
   rotate_left
   ·omega
   ·omega
   ·exact (Less.cons rfl (Less.cons rfl (Less.cons rfl (Less.cons rfl (Less.cons rfl Less.nil)))))
   ·exact (.cons_cons _ (.cons_cons _ (.cons_cons _ (.cons_cons _ (.cons_cons _ (.cons_cons _ (.cons_cons _ (.cons_cons _ (.cons _ (.cons _ (.cons _ (.cons _ (.cons _ .slnil)))))))))))))
   rintro n hn j _ _ ⟨i, b, cp, op, rfl, rfl, rfl, hi, hT⟩
   have hq9 := mul_sm (x := (l2.length : Int)) (y := (i : Int)) (by omega) (by omega)
   have hq8 : ((l2.length * i : Nat) : Int) = (l2.length : Int) * (i : Int) := by simp
   refine r_seq (r_items ?_)
   refine i_op (a_lss rfl rfl (fun h101 => ?_) (fun h101 => ?_)) rfl rfl
   ·refine i_nil (then_n (r_seq (r_cond_t rfl (r_skip (then_n (r_seq (r_block (r_seq (r_items (i_mv rfl rfl rfl (i_mv rfl rfl rfl (i_nil (then_n (r_seq (r_items (i_fa rfl rfl rfl (i_ld rfl (.next (.next (.next .here))) rfl rfl rfl ?_)))))))))))))))))
    refine i_op (a_lenx rfl hl2.spot ?_) rfl rfl
    refine i_mv rfl rfl rfl (i_nil (then_n (r_block ?_)))
    refine r_loop (fun j e A => ∃ (y b cp : Nat) (op : Bool), e = [(0, .func (.yield l98) ⟨[]⟩ ⟨[]⟩), (1, .pointer (some ⟨b96, 0, none⟩)), (3, .int .i64 ((l2.length * i + y : Nat) : Int)), (4, .int .i64 (i : Int)), (8, .int .i64 (l1.length : Int)), (9, .int .i64 (i : Int)), (14, .int .i64 (l2.length : Int)), (15, .int .i64 (y : Int))] ∧ A = (.row b 3 op (ints (gpre (onlyL ws) (onlyL ww) l2.length (l2.length * i + y))) :: (LO99 :: (.dfr q97 :: (.row b96 33 false ([.int .i64 d, .int .i64 r, .slice a1 l1.length c1, .slice a2 l2.length c2, .int .i64 al, .int .i64 up]) :: (.row b95 22 false ([.slice (some ⟨b, 0, none⟩) (l2.length * i + y + 1) cp]) :: (.row b93 147 false ([.slice (some ⟨b91, 0, none⟩) (ws + 1) (ws + 1), .slice (some ⟨b92, 0, none⟩) (ww + 1) (ww + 1), .int .i64 1]) :: (.row b92 3 false (ints (onlyL ww)) :: (.row b91 3 false (ints (onlyL ws)) :: [])))))))) ∧ j = l2.length - y ∧ y ≤ l2.length ∧ FT op cp (l2.length * i + y)) 500 0 281474976710656 ?_ (j := _) (env2 := _) (A2 := _) ?_ ?_ ?_ ?_ ⟨0, b, cp, op, rfl, rfl, rfl, by omega, hT⟩
    rotate_left
    ·omega
    ·omega
    ·exact (Less.cons rfl (Less.cons rfl (Less.cons rfl (Less.cons rfl (Less.cons rfl (Less.cons rfl (Less.cons rfl (Less.cons rfl Less.nil))))))))
    ·exact (.cons_cons _ (.cons_cons _ (.cons_cons _ (.cons_cons _ (.cons_cons _ (.cons_cons _ (.cons_cons _ (.cons_cons _ .slnil))))))))
    rintro n hn j _ _ ⟨y, b, cp, op, rfl, rfl, rfl, hy, hT2⟩
    refine r_seq (r_items ?_)
    refine i_op (a_lss rfl rfl (fun h102 => ?_) (fun h102 => ?_)) rfl rfl
    ·refine i_nil (then_n (r_seq (r_cond_t rfl (r_skip (then_n (r_seq (r_block (r_seq (r_items (i_mv rfl rfl rfl (i_mv rfl rfl rfl (i_nil (then_n (r_seq (r_items (i_mv rfl rfl rfl ?_))))))))))))))))
     refine i_op (a_add rfl rfl (by omega) ?_) rfl rfl
     refine i_mv rfl rfl rfl (i_nil (then_n (r_seq (r_items (i_mv rfl rfl rfl (i_mv rfl rfl rfl (i_mv rfl rfl rfl (i_mv rfl rfl rfl ?_))))))))
     refine i_op (a_build rfl rfl ?_) rfl rfl
     refine i_op (a_yieldV rfl rfl hLO99 hBO100 (by simp) rfl rfl ?_) rfl rfl
     refine r_items ?_
     refine i_op (a_new rfl rfl (fun b103 => ?_)) rfl rfl
     refine i_opn (a_sta rfl rfl .here rfl rfl rfl rfl ?_) rfl
     refine i_nil ?_
     refine ⟨_, (.next (.next .here)), ?_⟩
     refine r_block (r_seq (r_items (i_mv rfl rfl rfl (i_nil (then_n (r_seq (r_seq (r_items (i_fa rfl rfl rfl (i_ld rfl .here rfl rfl rfl (i_fa rfl rfl rfl (i_ld rfl (.next (.next (.next (.next (.next (.next .here)))))) rfl rfl rfl ?_))))))))))))
     refine i_op (a_len rfl ?_) rfl rfl
     refine i_op (a_lss rfl rfl (fun h104 => ?_) (fun h104 => ?_)) rfl rfl
     ·refine i_mv rfl rfl rfl (i_fa rfl rfl rfl (i_ld rfl .here rfl rfl rfl (i_fa rfl rfl rfl (i_ld rfl (.next (.next (.next (.next (.next (.next .here)))))) rfl rfl rfl ?_))))
      refine i_op (a_len rfl ?_) rfl rfl
      refine i_op (a_lss rfl rfl (fun h105 => ?_) (fun h105 => ?_)) rfl rfl
      ·refine i_op (a_pick_t rfl rfl rfl ?_) rfl rfl
       refine i_nil (then_n (r_cond_t rfl (r_items (i_fa rfl rfl rfl (i_ld rfl (.next (.next (.next (.next (.next (.next .here)))))) rfl rfl rfl (i_fa rfl rfl rfl (i_ld rfl .here rfl rfl rfl ?_)))))))
       refine i_op (a_ia (j := i) rfl rfl (by omega) (by omega) ?_) rfl rfl
       refine i_op (a_ldI rfl (.next (.next (.next (.next (.next (.next (.next (.next .here)))))))) (by first | omega | (simp; done) | (simp; omega)) ?_) rfl rfl
       refine i_fa rfl rfl rfl (i_ld rfl (.next (.next (.next (.next (.next (.next .here)))))) rfl rfl rfl (i_fa rfl rfl rfl (i_ld rfl .here rfl rfl rfl ?_)))
       refine i_op (a_ia (j := y) rfl rfl (by omega) (by omega) ?_) rfl rfl
       refine i_op (a_ldI rfl (.next (.next (.next (.next (.next (.next (.next .here))))))) (by first | omega | (simp; done) | (simp; omega)) ?_) rfl rfl
       refine i_op (a_mul rfl rfl (mul_bd (by first | exact wts_bd hp1 _ | exact only_bd _ _) (by first | exact wts_bd hp2 _ | exact wts_bd (plc_take hp2 (by omega) (by omega)) _ | exact only_bd _ _)) ?_) rfl rfl
       refine i_mv rfl rfl rfl (i_nil (then_n (r_items (i_ld rfl (.next (.next (.next (.next (.next .here))))) rfl rfl rfl (i_mv rfl rfl rfl ?_)))))
       refine i_op (a_lit rfl rfl rfl (fun b106 => ?_)) rfl rfl
       refine i_op (a_app rfl rfl (Src.own .here rfl (by simp)) (.next (.next .here)) (by rw [ints_len, gpre_len, Nat.mul_one]) (tight_of hT2) (by decide) (by omega) (by omega) (fun b107 => ?_)) rfl rfl
       refine i_opn (a_st rfl rfl (.next (.next (.next (.next (.next (.next .here)))))) rfl rfl ?_) rfl
       refine i_nil (block_n ?_)
       refine ⟨_, (.next (.next (.next .here))), ?_⟩
       refine i_op (a_not rfl ?_) rfl rfl
       refine i_nil (then_n (r_cond_f rfl (r_skip (block_n (then_n (r_items ?_))))))
       refine i_op (a_add rfl rfl (by omega) ?_) rfl rfl
       refine i_mv rfl rfl rfl (i_nil (then_n ?_))
       exact ⟨rfl, _, _, _, (show l2.length - (y + 1) < l2.length - y by omega), (lc 0 rfl (lc 1 rfl (lc 3 rfl (lc 4 rfl (lc 8 rfl (lc 9 rfl (lc 14 rfl (lc 15 rfl Less.nil)))))))), (.cons_cons _ (.cons _ (.cons _ (.cons_cons _ (.cons_cons _ (.cons_cons _ (.cons_cons _ (.cons_cons _ (.cons_cons _ (.cons_cons _ .slnil)))))))))), ⟨y + 1, b107, _, _, rfl, (by simp only [List.set_cons_zero]; first | (rw [gpre_add (n := l2.length) (i := i) (y := y) (by omega)]; first | done | rfl) | (rw [gpre_add0 (al := onlyL ws) (up := onlyL ww) (n := l2.length) (i := i) (y := y) (by omega) (.inl (by omega))]; first | done | rfl) | (rw [gpre_add0 (al := onlyL ws) (up := onlyL ww) (n := l2.length) (i := i) (y := y) (by omega) (.inr (by omega))]; first | done | rfl)), rfl, by omega, (.inl ⟨rfl, rfl⟩)⟩⟩
      ·refine i_op (a_pick_t rfl rfl rfl ?_) rfl rfl
       refine i_nil (then_n (r_cond_f rfl (r_skip (then_n (r_items (i_ld rfl (.next (.next (.next (.next (.next .here))))) rfl rfl rfl (i_mv rfl rfl rfl ?_)))))))
       refine i_op (a_lit rfl rfl rfl (fun b108 => ?_)) rfl rfl
       refine i_op (a_app rfl rfl (Src.own .here rfl (by simp)) (.next (.next .here)) (by rw [ints_len, gpre_len, Nat.mul_one]) (tight_of hT2) (by decide) (by omega) (by omega) (fun b109 => ?_)) rfl rfl
       refine i_opn (a_st rfl rfl (.next (.next (.next (.next (.next (.next .here)))))) rfl rfl ?_) rfl
       refine i_nil (block_n ?_)
       refine ⟨_, (.next (.next (.next .here))), ?_⟩
       refine i_op (a_not rfl ?_) rfl rfl
       refine i_nil (then_n (r_cond_f rfl (r_skip (block_n (then_n (r_items ?_))))))
       refine i_op (a_add rfl rfl (by omega) ?_) rfl rfl
       refine i_mv rfl rfl rfl (i_nil (then_n ?_))
       exact ⟨rfl, _, _, _, (show l2.length - (y + 1) < l2.length - y by omega), (lc 0 rfl (lc 1 rfl (lc 3 rfl (lc 4 rfl (lc 8 rfl (lc 9 rfl (lc 14 rfl (lc 15 rfl Less.nil)))))))), (.cons_cons _ (.cons _ (.cons _ (.cons_cons _ (.cons_cons _ (.cons_cons _ (.cons_cons _ (.cons_cons _ (.cons_cons _ (.cons_cons _ .slnil)))))))))), ⟨y + 1, b109, _, _, rfl, (by simp only [List.set_cons_zero]; first | (rw [gpre_add (n := l2.length) (i := i) (y := y) (by omega)]; first | done | rfl) | (rw [gpre_add0 (al := onlyL ws) (up := onlyL ww) (n := l2.length) (i := i) (y := y) (by omega) (.inl (by omega))]; first | done | rfl) | (rw [gpre_add0 (al := onlyL ws) (up := onlyL ww) (n := l2.length) (i := i) (y := y) (by omega) (.inr (by omega))]; first | done | rfl)), rfl, by omega, (.inl ⟨rfl, rfl⟩)⟩⟩
     ·refine i_mv rfl rfl rfl (i_no rfl rfl (i_no rfl rfl (i_no rfl rfl (i_no rfl rfl (i_no rfl rfl (i_no rfl rfl ?_))))))
      refine i_op (a_pick_f rfl rfl rfl ?_) rfl rfl
      refine i_nil (then_n (r_cond_f rfl (r_skip (then_n (r_items (i_ld rfl (.next (.next (.next (.next (.next .here))))) rfl rfl rfl (i_mv rfl rfl rfl ?_)))))))
      refine i_op (a_lit rfl rfl rfl (fun b110 => ?_)) rfl rfl
      refine i_op (a_app rfl rfl (Src.own .here rfl (by simp)) (.next (.next .here)) (by rw [ints_len, gpre_len, Nat.mul_one]) (tight_of hT2) (by decide) (by omega) (by omega) (fun b111 => ?_)) rfl rfl
      refine i_opn (a_st rfl rfl (.next (.next (.next (.next (.next (.next .here)))))) rfl rfl ?_) rfl
      refine i_nil (block_n ?_)
      refine ⟨_, (.next (.next (.next .here))), ?_⟩
      refine i_op (a_not rfl ?_) rfl rfl
      refine i_nil (then_n (r_cond_f rfl (r_skip (block_n (then_n (r_items ?_))))))
      refine i_op (a_add rfl rfl (by omega) ?_) rfl rfl
      refine i_mv rfl rfl rfl (i_nil (then_n ?_))
      exact ⟨rfl, _, _, _, (show l2.length - (y + 1) < l2.length - y by omega), (lc 0 rfl (lc 1 rfl (lc 3 rfl (lc 4 rfl (lc 8 rfl (lc 9 rfl (lc 14 rfl (lc 15 rfl Less.nil)))))))), (.cons_cons _ (.cons _ (.cons _ (.cons_cons _ (.cons_cons _ (.cons_cons _ (.cons_cons _ (.cons_cons _ (.cons_cons _ (.cons_cons _ .slnil)))))))))), ⟨y + 1, b111, _, _, rfl, (by simp only [List.set_cons_zero]; first | (rw [gpre_add (n := l2.length) (i := i) (y := y) (by omega)]; first | done | rfl) | (rw [gpre_add0 (al := onlyL ws) (up := onlyL ww) (n := l2.length) (i := i) (y := y) (by omega) (.inl (by omega))]; first | done | rfl) | (rw [gpre_add0 (al := onlyL ws) (up := onlyL ww) (n := l2.length) (i := i) (y := y) (by omega) (.inr (by omega))]; first | done | rfl)), rfl, by omega, (.inl ⟨rfl, rfl⟩)⟩⟩
    ·refine i_nil (then_n (r_seq (r_cond_f rfl (r_exit (then_e (then_e (block_hit (block_n (then_n (r_items ?_))))))))))
     refine i_op (a_add rfl rfl (by omega) ?_) rfl rfl
     refine i_mv rfl rfl rfl (i_nil (then_n ?_))
     have hyl : y = l2.length := (by omega)
     subst hyl
     exact ⟨rfl, _, _, _, (show l1.length - (i + 1) < l1.length - i by omega), (lc 0 rfl (lc 1 rfl (lc 3 rfl (lc 8 rfl (lc 9 rfl Less.nil))))), (.cons_cons _ (.cons_cons _ (.cons_cons _ (.cons_cons _ (.cons_cons _ (.cons_cons _ (.cons_cons _ (.cons_cons _ .slnil)))))))), ⟨i + 1, b, _, _, rfl, rfl, rfl, by omega, hT2⟩⟩
   ·refine i_nil (then_n (r_seq (r_cond_f rfl (r_exit (then_e (then_e (block_hit ?_)))))))
    refine endD0n .nil ?_
    refine .inl ⟨_, (.next .here), ?_⟩
    refine block_n (then_n (r_seq (r_items (i_ld rfl (.next (.next (.next .here))) rfl rfl rfl (i_fa rfl rfl rfl (i_ld rfl (.next (.next (.next (.next .here)))) rfl rfl rfl (i_mv rfl rfl rfl (i_mv rfl rfl rfl (i_mv rfl rfl rfl (i_nil (then_n (r_ret ?_))))))))))))
    have hil : i = l1.length := by omega
    subst hil
    obtain ⟨rfl, rfl⟩ := ft_pos hT (Nat.mul_pos (by omega) (by omega))
    exact endD3A rfl rfl rfl (.cons (.next .here) .nil) (.cons_cons _ (.cons _ (.cons _ (.cons _ (.cons _ (.cons _ .slnil)))))) (.inl ⟨by omega, b, rfl, rfl⟩)
  ·refine i_op (a_not rfl ?_) rfl rfl
   refine i_op (a_pick_f rfl rfl rfl ?_) rfl rfl
   refine i_nil (then_n (r_cond_t rfl (r_seq (r_items (i_mv rfl rfl rfl (i_mv rfl rfl rfl (i_mv rfl rfl rfl (i_nil (then_n (r_ret (then_r ?_)))))))))))
   refine endD3A rfl rfl rfl .nil (List.nil_sublist _) (.inr ⟨?_, rfl, rfl⟩)
   first | omega | (intro h; omega)
 ·simp only [List.nil_append, List.cons_append, findL_none hkey]
  refine i_mv rfl rfl rfl ?_
  iterate 2 refine i_op (a_ext rfl rfl ?_) rfl rfl
  refine i_mv rfl rfl rfl (i_mv rfl rfl rfl (i_nil (then_n (r_seq (r_seq (r_items (i_mv rfl rfl rfl ?_)))))))
  refine i_op (a_not rfl ?_) rfl rfl
  refine i_mv rfl rfl rfl (i_no rfl rfl (i_no rfl rfl (i_no rfl rfl (i_no rfl rfl (i_no rfl rfl (i_no rfl rfl (i_no rfl rfl ?_)))))))
  refine i_op (a_pick_t rfl rfl rfl ?_) rfl rfl
  refine i_nil (then_n (r_cond_t rfl (r_seq (r_items (i_mv rfl rfl rfl (i_mv rfl rfl rfl (i_mv rfl rfl rfl (i_nil (then_n (r_ret (then_r ?_)))))))))))
  refine endD3A rfl rfl rfl .nil (List.nil_sublist _) (.inr ⟨?_, rfl, rfl⟩)
  first | omega | (intro h; omega)
end
end Ev
end Go.Proofs.YtfhfjcfhanmbiaaGreat
