import Derived.Test.YtfhfjcfhanmbiaaGreatZb10
import Derived.Test.YtfhfjcfhanmbiaaGreatZb04
import Derived.ProofKit
import Derived.OpenShut
set_option linter.unusedVariables false
set_option linter.unusedSimpArgs false
/- Contracts: the reference grid. -/
namespace Go.Proofs.YtfhfjcfhanmbiaaGreat
open Go Go.RowKit
namespace Ev
theorem own_of_mem {A : List Ob} {b e : Nat} {op : Bool} {l : List Value} (h : Ob.row b e op l ∈ A) : Own A b e op l := by
 induction A with
 | nil => cases h
 | cons x A ih =>
  rcases List.mem_cons.1 h with h | h
  ·subst h; exact .here
  ·exact .next (ih h)
def rowP (l1 l2 : List Int) (i y : Nat) : List Int := ((wts l2).take y).map fun x => (wts l1).getD i 0 * x
theorem rowP_len {l1 l2 : List Int} {i y : Nat} (h : y ≤ (wts l2).length) : (rowP l1 l2 i y).length = y := by
 unfold rowP; rw [List.length_map, List.length_take]; omega
theorem rowP_add {l1 l2 : List Int} {i y : Nat} (h : y < (wts l2).length) : ints (rowP l1 l2 i y) ++ [.int .i64 ((wts l1).getD i 0 * (wts l2).getD y 0)] = ints (rowP l1 l2 i (y + 1)) := by
 have e : (wts l2).getD y 0 = (wts l2)[y] := by rw [List.getD_eq_getElem?_getD, List.getElem?_eq_getElem h]; rfl
 unfold rowP ints
 rw [List.take_add_one, List.getElem?_eq_getElem h, List.map_append, List.map_append, e]; rfl
theorem rowP_one {l1 l2 : List Int} {i : Nat} (h : 0 < (wts l2).length) : ints (rowP l1 l2 i 1) = [.int .i64 ((wts l1).getD i 0 * (wts l2).getD 0 0)] := (rowP_add (y := 0) h).symm
def slv (n c : Nat) : Value := .slice (some ⟨c, 0, none⟩) n OPEN
def RowsT (l1 l2 : List Int) (bs : List Nat) (T : List Ob) : Prop := ∀ j c, bs[j]? = some c → Ob.row c 3 true (ints (rowP l1 l2 j l2.length)) ∈ T
theorem rowsT_add {l1 l2 : List Int} {bs : List Nat} {T : List Ob} {c i : Nat} (h : RowsT l1 l2 bs T) (hi : bs.length = i) : RowsT l1 l2 (bs ++ [c]) (.row c 3 true (ints (rowP l1 l2 i l2.length)) :: T) := by
 intro j d hd
 by_cases hj : j < bs.length
 ·rw [List.getElem?_append_left hj] at hd
  exact List.mem_cons_of_mem _ (h j d hd)
 ·rw [List.getElem?_append_right (by omega)] at hd
  have : j = bs.length := by
   by_cases hq : j - bs.length = 0
   ·omega
   ·rw [List.getElem?_eq_none (by simp; omega)] at hd; cases hd
  subst this
  simp at hd
  subst hd
  rw [hi]
  exact List.mem_cons_self
section
variable {X : FuncId → List Value → St → (Value → St → Bool) → Bool}
theorem rGrid_s (n : Nat) (a1 a2 : Option Addr) (c1 c2 : Nat) (l1 l2 : List Int) (s : St) (hs : Wf s) (hn : 1407374883553280 ≤ n) (hl1 : IntsE s a1 l1) (hl2 : IntsE s a2 l2) (hpl : planB l1 l2 = true) (hp1 : Plc 9 100000 l1) (hp2 : Plc 9 100000 l2) : Spec Tryz.prog (tabK tabw) X (n + 1600) 93 [.slice a1 l1.length c1, .slice a2 l2.length c2] s (fun v A => ∃ b bs T, v = .tuple #[.slice (some ⟨b, 0, none⟩) l1.length OPEN, .int .i64 0] ∧ A = .row b 22 true (bs.map (slv l2.length)) :: T ∧ bs.length = l1.length ∧ RowsT l1 l2 bs T) := by
 refine enter bw93_at rfl hs ?_
 unfold bw93
 have hlen1 := hl1.len
 have hlen2 := hl2.len
 have hw1 := wts_len (l := l1)
 have hw2 := wts_len (l := l2)
 have hm1 := hp1.hm
 have hm2 := hp2.hm
 have h21 := hp1.h2
 have h22 := hp2.h2
 refine r_seq (r_items (i_mv rfl rfl rfl (i_mv rfl rfl rfl (i_nil (then_n (r_seq (r_seq (r_items (i_mv rfl rfl rfl (i_mv rfl rfl rfl ?_))))))))))
 refine i_op (a_callb rfl rfl (fun s1 h1 => isTable_s _ _ _ _ _ _ _ s1 h1.wf (by omega) (hl1.ext hs h1.2.1) (hl2.ext hs h1.2.1)) (fun h1 => ?_) (fun h1 => ?_)) rfl rfl
 ·refine i_op (a_not rfl ?_) rfl rfl
  refine i_nil (then_n (r_cond_f rfl (r_skip (then_n (r_seq (r_items (i_mv rfl rfl rfl ?_)))))))
  refine i_op (a_call rfl rfl (fun s1 h1 => rweights_s _ _ _ _ s1 h1.wf (by omega) (hl1.ext hs h1.2.1) hp1) (fun v1 A1 q1 => ?_)) rfl rfl
  obtain ⟨b2, rfl, rfl⟩ := q1
  refine i_mv rfl rfl rfl (i_nil (then_n (r_seq (r_items (i_mv rfl rfl rfl ?_)))))
  refine i_op (a_call rfl rfl (fun s1 h1 => rweights_s _ _ _ _ s1 h1.wf (by omega) (hl2.ext hs h1.2.1) hp2) (fun v1 A1 q1 => ?_)) rfl rfl
  obtain ⟨b3, rfl, rfl⟩ := q1
  refine i_mv rfl rfl rfl (i_nil (then_n (r_seq (r_items (i_mv rfl rfl rfl (i_nil (then_n (r_seq (r_seq (r_items (i_mv rfl rfl rfl (i_nil (then_n (r_block ?_))))))))))))))
  refine r_unroll ?_
  refine r_seq (r_seq (r_items (i_mv rfl rfl rfl (i_mv rfl rfl rfl ?_))))
  refine i_op (a_len rfl ?_) rfl rfl
  refine i_op (a_lss rfl rfl (fun h4 => ?_) (fun h4 => ?_)) rfl rfl
  ·refine i_nil (then_n (r_cond_t rfl (r_skip (then_n (r_seq (r_block (r_seq (r_items (i_mv rfl rfl rfl (i_nil (then_n (r_seq (r_seq (r_items (i_mv rfl rfl rfl (i_nil (then_n (r_block ?_))))))))))))))))))
   refine r_unroll ?_
   refine r_seq (r_seq (r_items (i_mv rfl rfl rfl (i_mv rfl rfl rfl ?_))))
   refine i_op (a_len rfl ?_) rfl rfl
   refine i_op (a_lss rfl rfl (fun h5 => ?_) (fun h5 => ?_)) rfl rfl
   ·refine i_nil (then_n (r_cond_t rfl (r_skip (then_n (r_seq (r_block (r_items (i_mv rfl rfl rfl (i_mv rfl rfl rfl (i_mv rfl rfl rfl ?_))))))))))
    refine i_op (a_ia (j := 0) rfl rfl (by omega) (by omega) ?_) rfl rfl
    refine i_op (a_ldI rfl (.next .here) (by first | omega | (simp; done) | (simp; omega)) ?_) rfl rfl
    refine i_mv rfl rfl rfl (i_mv rfl rfl rfl ?_)
    refine i_op (a_ia (j := 0) rfl rfl (by omega) (by omega) ?_) rfl rfl
    refine i_op (a_ldI rfl .here (by first | omega | (simp; done) | (simp; omega)) ?_) rfl rfl
    refine i_op (a_mul rfl rfl (mul_bd (wts_bd hp1 _) (wts_bd hp2 _)) ?_) rfl rfl
    refine i_op (a_lit rfl rfl rfl (fun b6 => ?_)) rfl rfl
    refine i_op (a_appn rfl rfl (Src.own .here rfl (by simp)) (by decide) (by omega) (by omega) (fun b7 => ?_)) rfl rfl
    refine i_mv rfl rfl rfl (i_nil (block_n (then_n (r_items (i_mv rfl rfl rfl ?_)))))
    refine i_op (a_add rfl rfl (by decide) ?_) rfl rfl
    refine i_mv rfl rfl rfl (i_nil (then_n ?_))
    refine r_loop (fun j e A => ∃ (y br : Nat), e = [(6, .slice (some ⟨b2, 0, none⟩) l1.length l1.length), (7, .slice (some ⟨b3, 0, none⟩) l2.length l2.length), (8, .slice none 0 0), (9, .int .i64 0), (10, .slice (some ⟨br, 0, none⟩) y OPEN), (11, .int .i64 (y : Int))] ∧ A = (.row br 3 true (ints (rowP l1 l2 0 y)) :: (.row b3 3 false (ints (wts l2)) :: (.row b2 3 false (ints (wts l1)) :: []))) ∧ j = l2.length - y ∧ y ≤ l2.length) 400 0 281474976710656 ?_ (j := _) (env2 := _) (A2 := _) ?_ ?_ ?_ ?_ ⟨1, b7, rfl, rfl, rfl, by omega⟩
    rotate_left
    ·omega
    ·omega
    ·exact (Less.cons rfl (Less.cons rfl (Less.cons rfl (Less.cons rfl (Less.cons rfl (Less.cons rfl Less.nil))))))
    ·rw [rowP_one (by omega)]
     exact (.cons_cons _ (.cons _ (.cons_cons _ (.cons_cons _ .slnil))))
    rintro n hn j _ _ ⟨y, br, rfl, rfl, rfl, hy⟩
    refine r_seq (r_seq (r_items (i_mv rfl rfl rfl (i_mv rfl rfl rfl ?_))))
    refine i_op (a_len rfl ?_) rfl rfl
    refine i_op (a_lss rfl rfl (fun h8 => ?_) (fun h8 => ?_)) rfl rfl
    ·refine i_nil (then_n (r_cond_t rfl (r_skip (then_n (r_seq (r_block (r_items (i_mv rfl rfl rfl (i_mv rfl rfl rfl (i_mv rfl rfl rfl ?_))))))))))
     refine i_op (a_ia (j := 0) rfl rfl (by omega) (by omega) ?_) rfl rfl
     refine i_op (a_ldI rfl (.next (.next .here)) (by first | omega | (simp; done) | (simp; omega)) ?_) rfl rfl
     refine i_mv rfl rfl rfl (i_mv rfl rfl rfl ?_)
     refine i_op (a_ia (j := y) rfl rfl (by omega) (by omega) ?_) rfl rfl
     refine i_op (a_ldI rfl (.next .here) (by first | omega | (simp; done) | (simp; omega)) ?_) rfl rfl
     refine i_op (a_mul rfl rfl (mul_bd (wts_bd hp1 _) (wts_bd hp2 _)) ?_) rfl rfl
     refine i_op (a_lit rfl rfl rfl (fun b9 => ?_)) rfl rfl
     refine i_op (a_app rfl rfl (Src.own .here rfl (by simp)) (.next .here) (by rw [ints_len, rowP_len (by omega), Nat.mul_one]) (.inl ⟨rfl, rfl⟩) (by decide) (by omega) (by omega) (fun b10 => ?_)) rfl rfl
     refine i_mv rfl rfl rfl (i_nil (block_n (then_n (r_items (i_mv rfl rfl rfl ?_)))))
     refine i_op (a_add rfl rfl (by omega) ?_) rfl rfl
     refine i_mv rfl rfl rfl (i_nil (then_n ?_))
     exact ⟨rfl, _, _, _, (show l2.length - (y + 1) < l2.length - y by omega), (lc 6 rfl (lc 7 rfl (lc 8 rfl (lc 9 rfl (lc 10 rfl (lc 11 rfl Less.nil)))))), (.cons_cons _ (.cons _ (.cons_cons _ (.cons_cons _ .slnil)))), ⟨y + 1, b10, rfl, (by simp only [List.set_cons_zero]; rw [rowP_add (by omega)]), rfl, by omega⟩⟩
    ·refine i_nil (then_n (r_cond_f rfl (r_exit (then_e (then_e (block_hit (then_n (r_items (i_mv rfl rfl rfl (i_mv rfl rfl rfl ?_))))))))))
     refine i_op (a_lit rfl rfl rfl (fun b11 => ?_)) rfl rfl
     refine i_op (a_appn rfl rfl (Src.own .here rfl (by simp)) (by decide) (by omega) (by omega) (fun b12 => ?_)) rfl rfl
     refine i_mv rfl rfl rfl (i_nil (block_n (then_n (r_items (i_mv rfl rfl rfl ?_)))))
     refine i_op (a_add rfl rfl (by decide) ?_) rfl rfl
     refine i_mv rfl rfl rfl (i_nil (then_n ?_))
     have hyl : y = l2.length := (by omega)
     subst hyl
     refine r_loop (fun j e A => ∃ (i b : Nat) (bs : List Nat) (T : List Ob), e = [(6, .slice (some ⟨b2, 0, none⟩) l1.length l1.length), (7, .slice (some ⟨b3, 0, none⟩) l2.length l2.length), (8, .slice (some ⟨b, 0, none⟩) i OPEN), (9, .int .i64 (i : Int))] ∧ A = (.row b 22 true (bs.map (slv l2.length)) :: T) ∧ j = l1.length - i ∧ i ≤ l1.length ∧ bs.length = i ∧ RowsT l1 l2 bs T ∧ Ob.row b2 3 false (ints (wts l1)) ∈ T ∧ Ob.row b3 3 false (ints (wts l2)) ∈ T) 900 281474976710656 281474976710656 ?_ (j := _) (env2 := _) (A2 := _) ?_ ?_ ?_ ?_ ⟨1, b12, [br], [.row br 3 true (ints (rowP l1 l2 0 l2.length)), .row b3 3 false (ints (wts l2)), .row b2 3 false (ints (wts l1))], rfl, rfl, rfl, by omega, rfl, (rowsT_add (bs := []) (fun _ _ h => by simp at h) rfl), (by simp), (by simp)⟩
     rotate_left
     ·omega
     ·omega
     ·exact (Less.cons rfl (Less.cons rfl (Less.cons rfl (Less.cons rfl Less.nil))))
     ·exact (.cons_cons _ (.cons _ (.cons_cons _ (.cons_cons _ (.cons_cons _ .slnil)))))
     rintro n hn j _ _ ⟨i, b, bs, T, rfl, rfl, rfl, hi, hbs, hrw, hm1, hm2⟩
     refine r_seq (r_seq (r_items (i_mv rfl rfl rfl (i_mv rfl rfl rfl ?_))))
     refine i_op (a_len rfl ?_) rfl rfl
     refine i_op (a_lss rfl rfl (fun h13 => ?_) (fun h13 => ?_)) rfl rfl
     ·refine i_nil (then_n (r_cond_t rfl (r_skip (then_n (r_seq (r_block (r_seq (r_items (i_mv rfl rfl rfl (i_nil (then_n (r_seq (r_seq (r_items (i_mv rfl rfl rfl (i_nil (then_n (r_block ?_))))))))))))))))))
      refine r_unroll ?_
      refine r_seq (r_seq (r_items (i_mv rfl rfl rfl (i_mv rfl rfl rfl ?_))))
      refine i_op (a_len rfl ?_) rfl rfl
      refine i_op (a_lss rfl rfl (fun h14 => ?_) (fun h14 => ?_)) rfl rfl
      ·refine i_nil (then_n (r_cond_t rfl (r_skip (then_n (r_seq (r_block (r_items (i_mv rfl rfl rfl (i_mv rfl rfl rfl (i_mv rfl rfl rfl ?_))))))))))
       refine i_op (a_ia (j := i) rfl rfl (by omega) (by omega) ?_) rfl rfl
       refine i_op (a_ldI rfl (own_of_mem (e := 3) (op := false) (l := ints (wts l1)) (by simp [hm1])) (by first | omega | (simp; done) | (simp; omega)) ?_) rfl rfl
       refine i_mv rfl rfl rfl (i_mv rfl rfl rfl ?_)
       refine i_op (a_ia (j := 0) rfl rfl (by omega) (by omega) ?_) rfl rfl
       refine i_op (a_ldI rfl (own_of_mem (e := 3) (op := false) (l := ints (wts l2)) (by simp [hm2])) (by first | omega | (simp; done) | (simp; omega)) ?_) rfl rfl
       refine i_op (a_mul rfl rfl (mul_bd (wts_bd hp1 _) (wts_bd hp2 _)) ?_) rfl rfl
       refine i_op (a_lit rfl rfl rfl (fun b15 => ?_)) rfl rfl
       refine i_op (a_appn rfl rfl (Src.own .here rfl (by simp)) (by decide) (by omega) (by omega) (fun b16 => ?_)) rfl rfl
       refine i_mv rfl rfl rfl (i_nil (block_n (then_n (r_items (i_mv rfl rfl rfl ?_)))))
       refine i_op (a_add rfl rfl (by decide) ?_) rfl rfl
       refine i_mv rfl rfl rfl (i_nil (then_n ?_))
       refine r_loop (fun j e A => ∃ (y br : Nat), e = [(6, .slice (some ⟨b2, 0, none⟩) l1.length l1.length), (7, .slice (some ⟨b3, 0, none⟩) l2.length l2.length), (8, .slice (some ⟨b, 0, none⟩) i OPEN), (9, .int .i64 (i : Int)), (10, .slice (some ⟨br, 0, none⟩) y OPEN), (11, .int .i64 (y : Int))] ∧ A = (.row br 3 true (ints (rowP l1 l2 i y)) :: (.row b 22 true (bs.map (slv l2.length)) :: T)) ∧ j = l2.length - y ∧ y ≤ l2.length) 400 0 281474976710656 ?_ (j := _) (env2 := _) (A2 := _) ?_ ?_ ?_ ?_ ⟨1, b16, rfl, rfl, rfl, by omega⟩
       rotate_left
       ·omega
       ·omega
       ·exact (Less.cons rfl (Less.cons rfl (Less.cons rfl (Less.cons rfl (Less.cons rfl (Less.cons rfl Less.nil))))))
       ·rw [rowP_one (by omega)]
        exact (.cons_cons _ (.cons _ (.cons_cons _ (List.Sublist.refl _))))
       rintro n hn j _ _ ⟨y, br, rfl, rfl, rfl, hy⟩
       refine r_seq (r_seq (r_items (i_mv rfl rfl rfl (i_mv rfl rfl rfl ?_))))
       refine i_op (a_len rfl ?_) rfl rfl
       refine i_op (a_lss rfl rfl (fun h17 => ?_) (fun h17 => ?_)) rfl rfl
       ·refine i_nil (then_n (r_cond_t rfl (r_skip (then_n (r_seq (r_block (r_items (i_mv rfl rfl rfl (i_mv rfl rfl rfl (i_mv rfl rfl rfl ?_))))))))))
        refine i_op (a_ia (j := i) rfl rfl (by omega) (by omega) ?_) rfl rfl
        refine i_op (a_ldI rfl (own_of_mem (e := 3) (op := false) (l := ints (wts l1)) (by simp [hm1])) (by first | omega | (simp; done) | (simp; omega)) ?_) rfl rfl
        refine i_mv rfl rfl rfl (i_mv rfl rfl rfl ?_)
        refine i_op (a_ia (j := y) rfl rfl (by omega) (by omega) ?_) rfl rfl
        refine i_op (a_ldI rfl (own_of_mem (e := 3) (op := false) (l := ints (wts l2)) (by simp [hm2])) (by first | omega | (simp; done) | (simp; omega)) ?_) rfl rfl
        refine i_op (a_mul rfl rfl (mul_bd (wts_bd hp1 _) (wts_bd hp2 _)) ?_) rfl rfl
        refine i_op (a_lit rfl rfl rfl (fun b18 => ?_)) rfl rfl
        refine i_op (a_app rfl rfl (Src.own .here rfl (by simp)) (.next .here) (by rw [ints_len, rowP_len (by omega), Nat.mul_one]) (.inl ⟨rfl, rfl⟩) (by decide) (by omega) (by omega) (fun b19 => ?_)) rfl rfl
        refine i_mv rfl rfl rfl (i_nil (block_n (then_n (r_items (i_mv rfl rfl rfl ?_)))))
        refine i_op (a_add rfl rfl (by omega) ?_) rfl rfl
        refine i_mv rfl rfl rfl (i_nil (then_n ?_))
        exact ⟨rfl, _, _, _, (show l2.length - (y + 1) < l2.length - y by omega), (lc 6 rfl (lc 7 rfl (lc 8 rfl (lc 9 rfl (lc 10 rfl (lc 11 rfl Less.nil)))))), (.cons_cons _ (.cons _ (.cons_cons _ (List.Sublist.refl _)))), ⟨y + 1, b19, rfl, (by simp only [List.set_cons_zero]; rw [rowP_add (by omega)]), rfl, by omega⟩⟩
       ·refine i_nil (then_n (r_cond_f rfl (r_exit (then_e (then_e (block_hit (then_n (r_items (i_mv rfl rfl rfl (i_mv rfl rfl rfl ?_))))))))))
        refine i_op (a_lit rfl rfl rfl (fun b20 => ?_)) rfl rfl
        refine i_op (a_app rfl rfl (Src.own .here rfl (by simp)) (.next (.next .here)) (by simp [hbs]) (.inl ⟨rfl, rfl⟩) (by decide) (by omega) (by omega) (fun b21 => ?_)) rfl rfl
        refine i_mv rfl rfl rfl (i_nil (block_n (then_n (r_items (i_mv rfl rfl rfl ?_)))))
        refine i_op (a_add rfl rfl (by omega) ?_) rfl rfl
        refine i_mv rfl rfl rfl (i_nil (then_n ?_))
        have hyl : y = l2.length := (by omega)
        subst hyl
        exact ⟨rfl, _, _, _, (show l1.length - (i + 1) < l1.length - i by omega), (lc 6 rfl (lc 7 rfl (lc 8 rfl (lc 9 rfl Less.nil)))), (.cons_cons _ (.cons _ (.cons_cons _ (List.Sublist.refl _)))), ⟨i + 1, b21, bs ++ [br], _, rfl, (by rw [List.map_append]; rfl), rfl, by omega, (by simp [hbs]), (rowsT_add hrw hbs), (by simp [hm1]), (by simp [hm2])⟩⟩
      ·exfalso; omega
     ·refine i_nil (then_n (r_cond_f rfl (r_exit (then_e (then_e (block_hit (then_n (r_seq (r_items (i_mv rfl rfl rfl (i_mv rfl rfl rfl (i_mv rfl rfl rfl (i_nil (then_n (r_ret ?_)))))))))))))))
      have hil : i = l1.length := by omega
      subst hil
      exact end2A rfl rfl (List.Sublist.refl _) ⟨b, bs, T, rfl, rfl, hbs, hrw⟩
   ·exfalso; omega
  ·exfalso; omega
 ·rw [hpl] at h1; cases h1
end
end Ev
end Go.Proofs.YtfhfjcfhanmbiaaGreat
/- Contracts: the reference weights of a quantity. -/
namespace Go.Proofs.YtfhfjcfhanmbiaaGreat
open Go Go.RowKit
namespace Ev
def OutQ (O tgt : List Int) (P : Nat → Prop) : Prop := O.length = tgt.length ∧ ∀ t, O.getD t 0 = tgt.getD t 0 ∨ (O.getD t 0 = 0 ∧ ¬ P t)
theorem outQ_start {tgt : List Int} {m : Nat} (h : tgt.length = m) {P : Nat → Prop} (hP : ∀ t, ¬ P t) : OutQ (List.replicate m 0) tgt P := by
 refine ⟨by simp [h], fun t => .inr ⟨?_, hP t⟩⟩
 rw [List.getD_eq_getElem?_getD, List.getElem?_replicate]
 split <;> rfl
theorem outQ_set {O tgt : List Int} {P P' : Nat → Prop} {j : Nat} {v : Int} (h : OutQ O tgt P) (hj : j < O.length) (hv : v = tgt.getD j 0) (hP : ∀ t, P' t → P t ∨ t = j) : OutQ (O.set j v) tgt P' := by
 refine ⟨by rw [List.length_set]; exact h.1, fun t => ?_⟩
 by_cases ht : j = t
 ·subst ht
  refine .inl ?_
  rw [← hv]
  simp [List.getD_eq_getElem?_getD, hj]
 ·rw [getD_set_ne ht]
  rcases h.2 t with h1 | ⟨h1, h2⟩
  ·exact .inl h1
  ·exact .inr ⟨h1, fun q => by rcases hP t q with q | q; exact h2 q; exact ht q.symm⟩
theorem outQ_mono {O tgt : List Int} {P P' : Nat → Prop} (h : OutQ O tgt P) (hP : ∀ t, P' t → P t) : OutQ O tgt P' :=
 ⟨h.1, fun t => by rcases h.2 t with h1 | ⟨h1, h2⟩; exact .inl h1; exact .inr ⟨h1, fun q => h2 (hP t q)⟩⟩
theorem outQ_end {O tgt : List Int} {P : Nat → Prop} (h : OutQ O tgt P) (h0 : ∀ t, ¬ P t → tgt.getD t 0 = 0) : O = tgt := by
 refine List.ext_getElem h.1 (fun t h1 h2 => ?_)
 have e : O.getD t 0 = tgt.getD t 0 := by
  rcases h.2 t with q | ⟨q, q2⟩
  ·exact q
  ·rw [q, h0 t q2]
 simpa [List.getD_eq_getElem?_getD, h1, h2] using e
def PG (n m i y : Nat) : Nat → Prop := fun t => ∃ i' y', ((i' < i ∧ y' < m) ∨ (i' = i ∧ y' < y)) ∧ t = n * i' + y' + 1
theorem pg_step {n m i y t : Nat} (h : PG n m i (y + 1) t) : PG n m i y t ∨ t = n * i + y + 1 := by
 obtain ⟨i', y', h1, h2⟩ := h
 rcases h1 with h1 | ⟨h1, h3⟩
 ·exact .inl ⟨i', y', .inl h1, h2⟩
 ·by_cases hy : y' = y
  ·subst hy; subst h1; exact .inr h2
  ·exact .inl ⟨i', y', .inr ⟨h1, by omega⟩, h2⟩
theorem pg_next {n m i t : Nat} (h : PG n m (i + 1) 0 t) : PG n m i m t := by
 obtain ⟨i', y', h1, h2⟩ := h
 rcases h1 with ⟨h1, h3⟩ | ⟨_, h3⟩
 ·by_cases hi : i' = i
  ·exact ⟨i', y', .inr ⟨hi, h3⟩, h2⟩
  ·exact ⟨i', y', .inl ⟨by omega, h3⟩, h2⟩
 ·omega
def P2 (n w i : Nat) : Nat → Prop := fun t => ∃ i', i' < i ∧ t = n * i' + w + 1
def P3 (n s y : Nat) : Nat → Prop := fun t => ∃ y', y' < y ∧ t = n * s + y' + 1
theorem p2_step {n w i t : Nat} (h : P2 n w (i + 1) t) : P2 n w i t ∨ t = n * i + w + 1 := by
 obtain ⟨i', h1, h2⟩ := h
 by_cases hi : i' = i
 ·subst hi; exact .inr h2
 ·exact .inl ⟨i', by omega, h2⟩
theorem p3_step {n s y t : Nat} (h : P3 n s (y + 1) t) : P3 n s y t ∨ t = n * s + y + 1 := by
 obtain ⟨y', h1, h2⟩ := h
 by_cases hy : y' = y
 ·subst hy; exact .inr h2
 ·exact .inl ⟨y', by omega, h2⟩
theorem idx_lt {n m i y : Nat} (hy : y < n) (hi : i < m) : n * i + y < n * m := by
 have : n * (i + 1) ≤ n * m := Nat.mul_le_mul_left _ hi
 rw [Nat.mul_add, Nat.mul_one] at this
 omega
theorem tgt_at {al up : List Int} {n m i y : Nat} (hy : y < n) (hi : i < m) : (gpre al up n (n * m)).getD (n * i + y + 1) 0 = al.getD i 0 * up.getD y 0 := by
 rw [← gpre_at (al := al) (up := up) hy, List.getD_eq_getElem?_getD]
 have := idx_lt hy hi
 unfold gpre
 rw [List.getElem?_cons_succ, List.getElem?_map, List.getElem?_range this]; rfl
theorem tgt_zero {al up : List Int} {n m t : Nat} (h : ∀ i y, y < n → t = n * i + y + 1 → i < m → al.getD i 0 * up.getD y 0 = 0) : (gpre al up n (n * m)).getD t 0 = 0 := by
 cases t with
 | zero => rfl
 | succ t =>
  by_cases ht : t < n * m
  ·have hn : 0 < n := by
    rcases Nat.eq_zero_or_pos n with q | q
    ·subst q; simp at ht
    ·exact q
   have e : t = n * (t / n) + t % n := (Nat.div_add_mod t n).symm
   have hy : t % n < n := Nat.mod_lt _ hn
   have hi : t / n < m := (Nat.div_lt_iff_lt_mul hn).2 (by rw [Nat.mul_comm]; exact ht)
   have e2 : t + 1 = n * (t / n) + t % n + 1 := by omega
   rw [e2, tgt_at hy hi]
   exact h _ _ hy e2 hi
  ·rw [getD_out (by rw [gpre_len]; omega)]
theorem only_at {x : Nat} : (onlyL x).getD x 0 = 1 := by simp [onlyL, List.getD_eq_getElem?_getD]
theorem only_ne {x y : Nat} (h : y ≠ x) : (onlyL x).getD y 0 = 0 := by
 unfold onlyL
 rw [getD_set_ne (Ne.symm h), List.getD_eq_getElem?_getD, List.getElem?_replicate]
 split <;> rfl
theorem rowP_get {l1 l2 : List Int} {i y : Nat} (h : y < l2.length) : (rowP l1 l2 i l2.length).getD y 0 = (wts l1).getD i 0 * (wts l2).getD y 0 := by
 have hw := wts_len (l := l2)
 have e : (wts l2).getD y 0 = (wts l2)[y]'(by omega) := by rw [List.getD_eq_getElem?_getD, List.getElem?_eq_getElem (by omega)]; rfl
 unfold rowP
 rw [e, List.getD_eq_getElem?_getD, List.getElem?_map, List.getElem?_take, if_pos (by omega), List.getElem?_eq_getElem (by omega)]; rfl
theorem resW_1 {wk : Int} {ws ww : Nat} {l1 l2 : List Int} (h : wk = 1) : resW wk ws ww l1 l2 = gpre (wts l1) (wts (l2.take (ww + 1))) l2.length (l2.length * l1.length) := by subst h; rfl
theorem resW_2 {wk : Int} {ws ww : Nat} {l1 l2 : List Int} (h : wk = 2) : resW wk ws ww l1 l2 = gpre (wts l1) (onlyL ww) l2.length (l2.length * l1.length) := by subst h; rfl
theorem resW_3 {wk : Int} {ws ww : Nat} {l1 l2 : List Int} (h : wk = 3) : resW wk ws ww l1 l2 = gpre (onlyL ws) (wts l2) l2.length (l2.length * l1.length) := by subst h; rfl
theorem resW_4 {wk : Int} {ws ww : Nat} {l1 l2 : List Int} (h : wk = 4) : resW wk ws ww l1 l2 = gpre (onlyL ws) (onlyL ww) l2.length (l2.length * l1.length) := by subst h; rfl
theorem resW_len {wk ws ww : Int} {l1 l2 : List Int} : (resW wk ws ww l1 l2).length = l2.length * l1.length + 1 := gpre_len
theorem plan_take {l1 l2 : List Int} {k : Nat} (h : planB l1 l2 = true) (h1 : 2 ≤ k) (h2 : k ≤ l2.length) : planB l1 (l2.take k) = true := by
 have hq := plan_q2 h
 have hp := plcB_of (plc_take (plan_p2 h) h1 h2)
 have hp1 := plcB_of (plan_p1 h)
 have hl : (l2.take k).length = k := by rw [List.length_take]; omega
 refine plan_last hp1 hp (by have := hq.hm; omega) ?_
 have e : (l2.take k).getD ((l2.take k).length - 1) 0 = l2.getD (k - 1) 0 := by
  rw [hl, List.getD_eq_getElem?_getD, List.getD_eq_getElem?_getD, List.getElem?_take, if_pos (by omega)]
 rw [e]; exact (hq.lo _).2
theorem slv_get {n : Nat} {bs : List Nat} {i c : Nat} (h : bs[i]? = some c) : (bs.map (slv n))[0 + i * 1]? = some (.slice (some ⟨c, 0, none⟩) n OPEN) := by
 rw [Nat.zero_add, Nat.mul_one, List.getElem?_map, h]; rfl
theorem resD_1 {wk : Int} (h : wk = 1) : resD wk = 648000000 := by subst h; rfl
theorem resD_2 {wk : Int} (h : wk = 2) : resD wk = 180000 := by subst h; rfl
theorem resD_3 {wk : Int} (h : wk = 3) : resD wk = 180000 := by subst h; rfl
theorem resD_4 {wk : Int} (h : wk = 4) : resD wk = 1 := by subst h; rfl
section
variable {X : FuncId → List Value → St → (Value → St → Bool) → Bool}
theorem oweights_s (n : Nat) (d r al up : Int) (a1 a2 : Option Addr) (c1 c2 : Nat) (l1 l2 : List Int) (wk : Int) (ws ww : Nat) (s : St) (hs : Wf s) (hn : 2251799813685248 ≤ n) (hl1 : IntsE s a1 l1) (hl2 : IntsE s a2 l2) (hpl : planB l1 l2 = true) (hp1 : Plc 9 100000 l1) (hp2 : Plc 9 100000 l2) (hc2 : c2 < OPEN) (hlc : l2.length ≤ c2) (hwh : ((wk = 1 ∧ (ws : Int) = 0 ∧ (0 ≤ (ww : Int) ∧ (ww : Int) ≤ (l2.length : Int) - 1) ∧ 0 < (ww : Int)) ∨ (wk = 2 ∧ (ws : Int) = 0 ∧ (0 ≤ (ww : Int) ∧ (ww : Int) ≤ (l2.length : Int) - 1)) ∨ (wk = 3 ∧ (0 ≤ (ws : Int) ∧ (ws : Int) ≤ (l1.length : Int) - 1) ∧ (ww : Int) = 0) ∨ (wk = 4 ∧ (0 ≤ (ws : Int) ∧ (ws : Int) ≤ (l1.length : Int) - 1) ∧ (0 ≤ (ww : Int) ∧ (ww : Int) ≤ (l2.length : Int) - 1)))) : Spec Tryz.prog (tabK tabw) X (n + 2500) 55 [.agg ⟨[.int .i64 d, .int .i64 r, .slice a1 l1.length c1, .slice a2 l2.length c2, .int .i64 al, .int .i64 up]⟩, .agg ⟨[.int .i64 wk, .int .i64 (ws : Int), .int .i64 (ww : Int)]⟩] s (fun v A => ∃ b, v = .tuple #[.slice (some ⟨b, 0, none⟩) (l2.length * l1.length + 1) (l2.length * l1.length + 1), .int .i64 (resD wk)] ∧ A = [.row b 3 false (ints (resW wk ws ww l1 l2))]) := by
 refine enter bw55_at rfl hs ?_
 unfold bw55
 have hlen1 := hl1.len
 have hlen2 := hl2.len
 have hm1 := hp1.hm
 have hm2 := hp2.hm
 have h21 := hp1.h2
 have h22 := hp2.h2
 have hw1 := wts_len (l := l1)
 have hw2 := wts_len (l := l2)
 have hw3 := wts_len (l := l2.take (ww + 1))
 have hs9 := mul_sm (x := (l1.length : Int)) (y := (l2.length : Int)) (by omega) (by omega)
 have hN : ((l2.length * l1.length : Nat) : Int) = (l1.length : Int) * (l2.length : Int) := by rw [Int.natCast_mul, Int.mul_comm]
 have hww : ww < l2.length := by omega
 have hws : ws < l1.length := by omega
 have hw4 : (l2.take (ww + 1)).length = ww + 1 := by rw [List.length_take]; omega
 refine r_seq (r_items ?_)
 refine i_op (a_box rfl rfl rfl (fun b1 => ?_)) rfl rfl
 refine i_op (a_box rfl rfl rfl (fun b2 => ?_)) rfl rfl
 refine i_mv rfl rfl rfl (i_mv rfl rfl rfl (i_nil (then_n (r_seq (r_items ?_)))))
 refine i_op (a_lda rfl (by decide) (.next .here) rfl ?_) rfl rfl
 refine i_op (a_callV rfl rfl (fun s1 h1 => offsets_s _ _ _ _ _ _ _ _ _ _ _ s1 h1.wf (by omega) (hl1.ext hs h1.2.1) (hl2.ext hs h1.2.1) (by omega)) ?_) rfl rfl
 refine i_op (a_add rfl rfl (by omega) ?_) rfl rfl
 refine i_op (a_mksZ (m := l2.length * l1.length + 1) rfl rfl (by omega) (by omega) (by omega) (fun b3 => ?_)) rfl rfl
 refine i_mv rfl rfl rfl (i_nil (then_n (r_seq (r_seq (r_items (i_fa rfl rfl rfl (i_ld rfl (.next .here) rfl rfl rfl (i_nil (then_n (r_block (r_seq (r_items ?_))))))))))))
 refine i_op (a_eql rfl rfl (fun h4 => ?_) (fun h4 => ?_)) rfl rfl
 ·have hk1 := h4
  refine i_mv rfl rfl rfl (i_nil (then_n (r_cond_t rfl (r_seq (r_items (i_fa rfl rfl rfl (i_ld rfl (.next (.next .here)) rfl rfl rfl (i_fa rfl rfl rfl (i_ld rfl (.next (.next .here)) rfl rfl rfl (i_fa rfl rfl rfl (i_ld rfl (.next .here) rfl rfl rfl ?_)))))))))))
  refine i_op (a_add rfl rfl (by omega) ?_) rfl rfl
  refine i_op (a_slcI (h := (l2.take (ww + 1)).length) hl2 rfl rfl (by rw [List.length_take]; omega) (by omega) (by rw [List.length_take]; omega) (by assumption) ?_) rfl rfl
  refine i_op (a_call rfl rfl (fun s1 h1 => rGrid_s _ _ _ _ _ _ _ s1 h1.wf (by omega) (hl1.ext hs h1.2.1) ((hl2.take (ww + 1)).ext hs h1.2.1) (plan_take hpl (by omega) (by omega)) hp1 (plc_take hp2 (by omega) (by omega))) (fun v1 A1 q1 => ?_)) rfl rfl
  obtain ⟨b5, bs6, T7, rfl, rfl, hb8, hr9⟩ := q1
  refine i_mv rfl rfl rfl ?_
  iterate 2 refine i_op (a_ext rfl rfl ?_) rfl rfl
  refine i_mv rfl rfl rfl (i_mv rfl rfl rfl (i_nil (then_n (r_seq (r_seq (r_items (i_mv rfl rfl rfl (i_nil (then_n (r_block ?_))))))))))
  refine r_loop (fun j e A => ∃ (i : Nat) (O : List Int), e = [(2, .pointer (some ⟨b1, 0, none⟩)), (3, .pointer (some ⟨b2, 0, none⟩)), (6, .slice (some ⟨b3, 0, none⟩) (l2.length * l1.length + 1) (l2.length * l1.length + 1)), (7, .slice (some ⟨b5, 0, none⟩) l1.length OPEN), (9, .int .i64 (i : Int))] ∧ A = (.row b5 22 true (bs6.map (slv (l2.take (ww + 1)).length)) :: (T7 ++ (.row b3 3 false (ints O) :: (.row b2 60 false ([.int .i64 wk, .int .i64 (ws : Int), .int .i64 (ww : Int)]) :: (.row b1 33 false ([.int .i64 d, .int .i64 r, .slice a1 l1.length c1, .slice a2 l2.length c2, .int .i64 al, .int .i64 up]) :: []))))) ∧ j = l1.length - i ∧ i ≤ l1.length ∧ O.length = l2.length * l1.length + 1 ∧ OutQ O (resW wk ws ww l1 l2) (PG l2.length (ww + 1) i 0)) 700 281474976710656 281474976710656 ?_ (j := _) (env2 := _) (A2 := _) ?_ ?_ ?_ ?_ ⟨0, List.replicate (l2.length * l1.length + 1) 0, rfl, rfl, rfl, by omega, (by simp), (outQ_start resW_len (fun t h => by obtain ⟨_, _, h1, _⟩ := h; omega))⟩
  rotate_left
  ·omega
  ·omega
  ·exact (Less.cons rfl (Less.cons rfl (Less.cons rfl (Less.cons rfl (Less.cons rfl Less.nil)))))
  ·exact (.cons_cons _ (List.Sublist.append (List.Sublist.refl _) (.cons_cons _ (.cons_cons _ (.cons_cons _ .slnil)))))
  rintro n hn j _ _ ⟨i, O, rfl, rfl, rfl, hi, hO, hQ⟩
  refine r_seq (r_seq (r_items (i_mv rfl rfl rfl (i_mv rfl rfl rfl ?_))))
  refine i_op (a_len rfl ?_) rfl rfl
  refine i_op (a_lss rfl rfl (fun h10 => ?_) (fun h10 => ?_)) rfl rfl
  ·obtain ⟨c, hbi⟩ := get_some (l := bs6) (k := i) (by omega)
   have hcT := hr9 _ _ hbi
   have hrl : (rowP l1 (l2.take (ww + 1)) i (l2.take (ww + 1)).length).length = ww + 1 := by rw [rowP_len (by rw [hw3]; exact Nat.le_refl _), hw4]
   refine i_nil (then_n (r_cond_t rfl (r_skip (then_n (r_seq (r_block (r_seq (r_items (i_mv rfl rfl rfl (i_nil (then_n (r_block ?_))))))))))))
   refine r_loop (fun j e A => ∃ (y : Nat) (O2 : List Int), e = [(2, .pointer (some ⟨b1, 0, none⟩)), (3, .pointer (some ⟨b2, 0, none⟩)), (6, .slice (some ⟨b3, 0, none⟩) (l2.length * l1.length + 1) (l2.length * l1.length + 1)), (7, .slice (some ⟨b5, 0, none⟩) l1.length OPEN), (9, .int .i64 (i : Int)), (10, .int .i64 (y : Int))] ∧ A = (.row b5 22 true (bs6.map (slv (l2.take (ww + 1)).length)) :: (T7 ++ (.row b3 3 false (ints O2) :: (.row b2 60 false ([.int .i64 wk, .int .i64 (ws : Int), .int .i64 (ww : Int)]) :: (.row b1 33 false ([.int .i64 d, .int .i64 r, .slice a1 l1.length c1, .slice a2 l2.length c2, .int .i64 al, .int .i64 up]) :: []))))) ∧ j = ww + 1 - y ∧ y ≤ ww + 1 ∧ O2.length = l2.length * l1.length + 1 ∧ OutQ O2 (resW wk ws ww l1 l2) (PG l2.length (ww + 1) i y)) 400 0 281474976710656 ?_ (j := _) (env2 := _) (A2 := _) ?_ ?_ ?_ ?_ ⟨0, O, rfl, rfl, rfl, by omega, hO, hQ⟩
   rotate_left
   ·omega
   ·omega
   ·exact (Less.cons rfl (Less.cons rfl (Less.cons rfl (Less.cons rfl (Less.cons rfl (Less.cons rfl Less.nil))))))
   ·exact (.cons_cons _ (List.Sublist.append (List.Sublist.refl _) (.cons_cons _ (.cons_cons _ (.cons_cons _ .slnil)))))
   rintro n hn j _ _ ⟨y, O2, rfl, rfl, rfl, hy, hO2, hQ2⟩
   refine r_seq (r_seq (r_items (i_mv rfl rfl rfl (i_mv rfl rfl rfl (i_mv rfl rfl rfl ?_)))))
   refine i_op (a_ia (j := i) rfl rfl (by omega) (by omega) ?_) rfl rfl
   refine i_op (a_ld rfl .here (slv_get hbi) ?_) rfl rfl
   refine i_op (a_len rfl ?_) rfl rfl
   refine i_op (a_lss rfl rfl (fun h11 => ?_) (fun h11 => ?_)) rfl rfl
   ·have hj9 := idx_lt (n := l2.length) (m := l1.length) (i := i) (y := y) (by omega) (by omega)
    have hc9 : ((l2.length * i : Nat) : Int) = (i : Int) * (l2.length : Int) := by rw [Int.natCast_mul, Int.mul_comm]
    refine i_nil (then_n (r_cond_t rfl (r_skip (then_n (r_seq (r_block (r_items (i_mv rfl rfl rfl ?_))))))))
    refine i_op (a_lda rfl (by decide) (.next (.app (.next (.next .here)))) rfl ?_) rfl rfl
    refine i_mv rfl rfl rfl (i_mv rfl rfl rfl (i_mv rfl rfl rfl (i_mv rfl rfl rfl ?_)))
    refine i_op (a_ia (j := i) rfl rfl (by omega) (by omega) ?_) rfl rfl
    refine i_op (a_ld rfl .here (slv_get hbi) ?_) rfl rfl
    refine i_mv rfl rfl rfl ?_
    refine i_op (a_ia (j := y) rfl rfl (by omega) (by omega) ?_) rfl rfl
    refine i_op (a_ldI rfl (own_of_mem (e := 3) (op := true) (l := ints (rowP l1 (l2.take (ww + 1)) i (l2.take (ww + 1)).length)) (List.mem_cons_of_mem _ (List.mem_append_left _ hcT))) (by first | omega | (simp; done) | (simp; omega)) ?_) rfl rfl
    refine i_op (a_callV rfl rfl (fun s1 h1 => number_s _ _ _ _ _ _ _ _ _ _ _ _ _ s1 h1.wf (by omega) (hl1.ext hs h1.2.1) (hl2.ext hs h1.2.1) (by omega) (by omega) (by omega)) ?_) rfl rfl
    refine i_opn (a_again rfl rfl (own_of_mem (e := 3) (op := true) (l := ints (rowP l1 (l2.take (ww + 1)) i (l2.take (ww + 1)).length)) (List.mem_cons_of_mem _ (List.mem_append_left _ hcT))) (ints_get (by first | omega | (simp; omega))) (by simp [eqV, kindEq, intEq_eq]) ?_) rfl
    refine i_opn (a_again rfl rfl .here (slv_get hbi) (by simp [eqV]) ?_) rfl
    refine i_op (a_ia (j := l2.length * i + y + 1) rfl rfl (by omega) (by omega) ?_) rfl rfl
    refine i_opn (a_stI rfl rfl (.next (.app .here)) (by first | omega | (simp; done) | (simp [wlen]; omega) | (simp; omega)) ?_) rfl
    refine i_nil (block_n (then_n (r_items (i_mv rfl rfl rfl ?_))))
    refine i_op (a_add rfl rfl (by omega) ?_) rfl rfl
    refine i_mv rfl rfl rfl (i_nil (then_n ?_))
    exact ⟨rfl, _, _, _, (show ww + 1 - (y + 1) < ww + 1 - y by omega), (lc 2 rfl (lc 3 rfl (lc 6 rfl (lc 7 rfl (lc 9 rfl (lc 10 rfl Less.nil)))))), (.cons_cons _ (List.Sublist.append (List.Sublist.refl _) (.cons_cons _ (.cons_cons _ (.cons_cons _ .slnil))))), ⟨y + 1, _, rfl, rfl, rfl, by omega, (by simp [hO2]), (outQ_set hQ2 (by omega) (by rw [resW_1 hk1, tgt_at (by omega) (by omega)]; exact rowP_get (by omega)) (fun t h => pg_step h))⟩⟩
   ·refine i_nil (then_n (r_cond_f rfl (r_exit (then_e (then_e (block_hit (block_n (then_n (r_items (i_mv rfl rfl rfl ?_))))))))))
    refine i_op (a_add rfl rfl (by omega) ?_) rfl rfl
    refine i_mv rfl rfl rfl (i_nil (then_n ?_))
    have hyl : y = ww + 1 := (by omega)
    subst hyl
    exact ⟨rfl, _, _, _, (show l1.length - (i + 1) < l1.length - i by omega), (lc 2 rfl (lc 3 rfl (lc 6 rfl (lc 7 rfl (lc 9 rfl Less.nil))))), (.cons_cons _ (List.Sublist.append (List.Sublist.refl _) (.cons_cons _ (.cons_cons _ (.cons_cons _ .slnil))))), ⟨i + 1, _, rfl, rfl, rfl, by omega, hO2, (outQ_mono hQ2 (fun t h => pg_next h))⟩⟩
  ·refine i_nil (then_n (r_cond_f rfl (r_exit (then_e (then_e (block_hit (then_n (r_seq (r_items (i_mv rfl rfl rfl (i_mv rfl rfl rfl (i_mv rfl rfl rfl (i_nil (then_n (r_ret (block_r (then_r ?_)))))))))))))))))
   have hil : i = l1.length := by omega
   subst hil
   have hfin := outQ_end hQ (fun t ht => by
     rw [resW_1 hk1]
     refine tgt_zero (fun i9 y9 hy9 ht9 hi9 => ?_)
     rw [getD_out (l := wts (l2.take (ww + 1))) (by rw [hw3, hw4]; exact Nat.le_of_not_lt (fun q => ht ⟨i9, y9, .inl ⟨by omega, q⟩, ht9⟩)), Int.mul_zero])
   exact end2A rfl rfl (.cons _ (List.sublist_append_of_sublist_right (.cons_cons _ (.cons _ (.cons _ .slnil))))) ⟨b3, by rw [resD_1 hk1], by rw [← hfin]⟩
 ·refine i_mv rfl rfl rfl (i_nil (then_n (r_cond_f rfl (r_seq (r_items ?_)))))
  refine i_op (a_eql rfl rfl (fun h12 => ?_) (fun h12 => ?_)) rfl rfl
  ·have hk2 := h12
   refine i_mv rfl rfl rfl (i_nil (then_n (r_cond_t rfl (r_seq (r_items (i_fa rfl rfl rfl (i_ld rfl (.next (.next .here)) rfl rfl rfl ?_)))))))
   refine i_op (a_call rfl rfl (fun s1 h1 => rWeights_s _ _ _ _ s1 h1.wf (by omega) (hl1.ext hs h1.2.1) hp1) (fun v1 A1 q1 => ?_)) rfl rfl
   obtain ⟨b13, rfl, rfl⟩ := q1
   refine i_mv rfl rfl rfl ?_
   iterate 2 refine i_op (a_ext rfl rfl ?_) rfl rfl
   refine i_mv rfl rfl rfl (i_mv rfl rfl rfl (i_nil (then_n (r_seq (r_seq (r_items (i_mv rfl rfl rfl (i_nil (then_n (r_block ?_))))))))))
   refine r_loop (fun j e A => ∃ (i : Nat) (O : List Int), e = [(2, .pointer (some ⟨b1, 0, none⟩)), (3, .pointer (some ⟨b2, 0, none⟩)), (6, .slice (some ⟨b3, 0, none⟩) (l2.length * l1.length + 1) (l2.length * l1.length + 1)), (11, .slice (some ⟨b13, 0, none⟩) l1.length l1.length), (13, .int .i64 (i : Int))] ∧ A = (.row b13 3 false (ints (wts l1)) :: (.row b3 3 false (ints O) :: (.row b2 60 false ([.int .i64 wk, .int .i64 (ws : Int), .int .i64 (ww : Int)]) :: (.row b1 33 false ([.int .i64 d, .int .i64 r, .slice a1 l1.length c1, .slice a2 l2.length c2, .int .i64 al, .int .i64 up]) :: [])))) ∧ j = l1.length - i ∧ i ≤ l1.length ∧ O.length = l2.length * l1.length + 1 ∧ OutQ O (resW wk ws ww l1 l2) (P2 l2.length ww i)) 400 0 281474976710656 ?_ (j := _) (env2 := _) (A2 := _) ?_ ?_ ?_ ?_ ⟨0, List.replicate (l2.length * l1.length + 1) 0, rfl, rfl, rfl, by omega, (by simp), (outQ_start resW_len (fun t h => by obtain ⟨_, h1, _⟩ := h; omega))⟩
   rotate_left
   ·omega
   ·omega
   ·exact (Less.cons rfl (Less.cons rfl (Less.cons rfl (Less.cons rfl (Less.cons rfl Less.nil)))))
   ·exact (.cons_cons _ (.cons_cons _ (.cons_cons _ (.cons_cons _ .slnil))))
   rintro n hn j _ _ ⟨i, O, rfl, rfl, rfl, hi, hO, hQ⟩
   refine r_seq (r_seq (r_items (i_mv rfl rfl rfl (i_mv rfl rfl rfl ?_))))
   refine i_op (a_len rfl ?_) rfl rfl
   refine i_op (a_lss rfl rfl (fun h14 => ?_) (fun h14 => ?_)) rfl rfl
   ·have hj9 := idx_lt (n := l2.length) (m := l1.length) (i := i) (y := ww) (by omega) (by omega)
    have hc9 : ((l2.length * i : Nat) : Int) = (i : Int) * (l2.length : Int) := by rw [Int.natCast_mul, Int.mul_comm]
    refine i_nil (then_n (r_cond_t rfl (r_skip (then_n (r_seq (r_block (r_items (i_mv rfl rfl rfl ?_))))))))
    refine i_op (a_lda rfl (by decide) (.next (.next (.next .here))) rfl ?_) rfl rfl
    refine i_mv rfl rfl rfl (i_fa rfl rfl rfl (i_ld rfl (.next (.next .here)) rfl rfl rfl (i_mv rfl rfl rfl (i_mv rfl rfl rfl ?_))))
    refine i_op (a_ia (j := i) rfl rfl (by omega) (by omega) ?_) rfl rfl
    refine i_op (a_ldI rfl .here (by first | omega | (simp; done) | (simp; omega)) ?_) rfl rfl
    refine i_op (a_callV rfl rfl (fun s1 h1 => number_s _ _ _ _ _ _ _ _ _ _ _ _ _ s1 h1.wf (by omega) (hl1.ext hs h1.2.1) (hl2.ext hs h1.2.1) (by omega) (by omega) (by omega)) ?_) rfl rfl
    refine i_opn (a_again rfl rfl .here (ints_get (by first | omega | (simp; omega))) (by simp [eqV, kindEq, intEq_eq]) ?_) rfl
    refine i_op (a_ia (j := l2.length * i + ww + 1) rfl rfl (by omega) (by omega) ?_) rfl rfl
    refine i_opn (a_stI rfl rfl (.next .here) (by first | omega | (simp; done) | (simp [wlen]; omega) | (simp; omega)) ?_) rfl
    refine i_nil (block_n (then_n (r_items (i_mv rfl rfl rfl ?_))))
    refine i_op (a_add rfl rfl (by omega) ?_) rfl rfl
    refine i_mv rfl rfl rfl (i_nil (then_n ?_))
    exact ⟨rfl, _, _, _, (show l1.length - (i + 1) < l1.length - i by omega), (lc 2 rfl (lc 3 rfl (lc 6 rfl (lc 11 rfl (lc 13 rfl Less.nil))))), (.cons_cons _ (.cons_cons _ (.cons_cons _ (.cons_cons _ .slnil)))), ⟨i + 1, _, rfl, rfl, rfl, by omega, (by simp [hO]), (outQ_set hQ (by omega) (by rw [resW_2 hk2, tgt_at (by omega) (by omega), only_at, Int.mul_one]) (fun t h => p2_step h))⟩⟩
   ·refine i_nil (then_n (r_cond_f rfl (r_exit (then_e (then_e (block_hit (then_n (r_seq (r_items (i_mv rfl rfl rfl (i_mv rfl rfl rfl (i_mv rfl rfl rfl (i_nil (then_n (r_ret (block_r (then_r ?_)))))))))))))))))
    have hil : i = l1.length := by omega
    subst hil
    have hfin := outQ_end hQ (fun t ht => by
      rw [resW_2 hk2]
      refine tgt_zero (fun i9 y9 hy9 ht9 hi9 => ?_)
      rw [only_ne (fun q => ht ⟨i9, by omega, by rw [ht9, q]⟩), Int.mul_zero])
    exact end2A rfl rfl (.cons _ (.cons_cons _ (.cons _ (.cons _ .slnil)))) ⟨b3, by rw [resD_2 hk2], by rw [← hfin]⟩
  ·refine i_mv rfl rfl rfl (i_nil (then_n (r_cond_f rfl (r_seq (r_items ?_)))))
   refine i_op (a_eql rfl rfl (fun h15 => ?_) (fun h15 => ?_)) rfl rfl
   ·have hk3 := h15
    refine i_mv rfl rfl rfl (i_nil (then_n (r_cond_t rfl (r_seq (r_items (i_fa rfl rfl rfl (i_ld rfl (.next (.next .here)) rfl rfl rfl ?_)))))))
    refine i_op (a_call rfl rfl (fun s1 h1 => rWeights_s _ _ _ _ s1 h1.wf (by omega) (hl2.ext hs h1.2.1) hp2) (fun v1 A1 q1 => ?_)) rfl rfl
    obtain ⟨b16, rfl, rfl⟩ := q1
    refine i_mv rfl rfl rfl ?_
    iterate 2 refine i_op (a_ext rfl rfl ?_) rfl rfl
    refine i_mv rfl rfl rfl (i_mv rfl rfl rfl (i_nil (then_n (r_seq (r_seq (r_items (i_mv rfl rfl rfl (i_nil (then_n (r_block ?_))))))))))
    refine r_loop (fun j e A => ∃ (y : Nat) (O : List Int), e = [(2, .pointer (some ⟨b1, 0, none⟩)), (3, .pointer (some ⟨b2, 0, none⟩)), (6, .slice (some ⟨b3, 0, none⟩) (l2.length * l1.length + 1) (l2.length * l1.length + 1)), (14, .slice (some ⟨b16, 0, none⟩) l2.length l2.length), (16, .int .i64 (y : Int))] ∧ A = (.row b16 3 false (ints (wts l2)) :: (.row b3 3 false (ints O) :: (.row b2 60 false ([.int .i64 wk, .int .i64 (ws : Int), .int .i64 (ww : Int)]) :: (.row b1 33 false ([.int .i64 d, .int .i64 r, .slice a1 l1.length c1, .slice a2 l2.length c2, .int .i64 al, .int .i64 up]) :: [])))) ∧ j = l2.length - y ∧ y ≤ l2.length ∧ O.length = l2.length * l1.length + 1 ∧ OutQ O (resW wk ws ww l1 l2) (P3 l2.length ws y)) 400 0 281474976710656 ?_ (j := _) (env2 := _) (A2 := _) ?_ ?_ ?_ ?_ ⟨0, List.replicate (l2.length * l1.length + 1) 0, rfl, rfl, rfl, by omega, (by simp), (outQ_start resW_len (fun t h => by obtain ⟨_, h1, _⟩ := h; omega))⟩
    rotate_left
    ·omega
    ·omega
    ·exact (Less.cons rfl (Less.cons rfl (Less.cons rfl (Less.cons rfl (Less.cons rfl Less.nil)))))
    ·exact (.cons_cons _ (.cons_cons _ (.cons_cons _ (.cons_cons _ .slnil))))
    rintro n hn j _ _ ⟨y, O, rfl, rfl, rfl, hi, hO, hQ⟩
    refine r_seq (r_seq (r_items (i_mv rfl rfl rfl (i_mv rfl rfl rfl ?_))))
    refine i_op (a_len rfl ?_) rfl rfl
    refine i_op (a_lss rfl rfl (fun h17 => ?_) (fun h17 => ?_)) rfl rfl
    ·have hj9 := idx_lt (n := l2.length) (m := l1.length) (i := ws) (y := y) (by omega) (by omega)
     have hc9 : ((l2.length * ws : Nat) : Int) = (ws : Int) * (l2.length : Int) := by rw [Int.natCast_mul, Int.mul_comm]
     refine i_nil (then_n (r_cond_t rfl (r_skip (then_n (r_seq (r_block (r_items (i_mv rfl rfl rfl ?_))))))))
     refine i_op (a_lda rfl (by decide) (.next (.next (.next .here))) rfl ?_) rfl rfl
     refine i_fa rfl rfl rfl (i_ld rfl (.next (.next .here)) rfl rfl rfl (i_mv rfl rfl rfl (i_mv rfl rfl rfl (i_mv rfl rfl rfl ?_))))
     refine i_op (a_ia (j := y) rfl rfl (by omega) (by omega) ?_) rfl rfl
     refine i_op (a_ldI rfl .here (by first | omega | (simp; done) | (simp; omega)) ?_) rfl rfl
     refine i_op (a_callV rfl rfl (fun s1 h1 => number_s _ _ _ _ _ _ _ _ _ _ _ _ _ s1 h1.wf (by omega) (hl1.ext hs h1.2.1) (hl2.ext hs h1.2.1) (by omega) (by omega) (by omega)) ?_) rfl rfl
     refine i_opn (a_again rfl rfl .here (ints_get (by first | omega | (simp; omega))) (by simp [eqV, kindEq, intEq_eq]) ?_) rfl
     refine i_op (a_ia (j := l2.length * ws + y + 1) rfl rfl (by omega) (by omega) ?_) rfl rfl
     refine i_opn (a_stI rfl rfl (.next .here) (by first | omega | (simp; done) | (simp [wlen]; omega) | (simp; omega)) ?_) rfl
     refine i_nil (block_n (then_n (r_items (i_mv rfl rfl rfl ?_))))
     refine i_op (a_add rfl rfl (by omega) ?_) rfl rfl
     refine i_mv rfl rfl rfl (i_nil (then_n ?_))
     exact ⟨rfl, _, _, _, (show l2.length - (y + 1) < l2.length - y by omega), (lc 2 rfl (lc 3 rfl (lc 6 rfl (lc 14 rfl (lc 16 rfl Less.nil))))), (.cons_cons _ (.cons_cons _ (.cons_cons _ (.cons_cons _ .slnil)))), ⟨y + 1, _, rfl, rfl, rfl, by omega, (by simp [hO]), (outQ_set hQ (by omega) (by rw [resW_3 hk3, tgt_at (by omega) (by omega), only_at, Int.one_mul]) (fun t h => p3_step h))⟩⟩
    ·refine i_nil (then_n (r_cond_f rfl (r_exit (then_e (then_e (block_hit (then_n (r_seq (r_items (i_mv rfl rfl rfl (i_mv rfl rfl rfl (i_mv rfl rfl rfl (i_nil (then_n (r_ret (block_r (then_r ?_)))))))))))))))))
     have hil : y = l2.length := by omega
     subst hil
     have hfin := outQ_end hQ (fun t ht => by
       rw [resW_3 hk3]
       refine tgt_zero (fun i9 y9 hy9 ht9 hi9 => ?_)
       rw [only_ne (fun q => ht ⟨y9, by omega, by rw [ht9, q]⟩), Int.zero_mul])
     exact end2A rfl rfl (.cons _ (.cons_cons _ (.cons _ (.cons _ .slnil)))) ⟨b3, by rw [resD_3 hk3], by rw [← hfin]⟩
   ·have hk4 : wk = 4 := by omega
    have hj9 := idx_lt (n := l2.length) (m := l1.length) (i := ws) (y := ww) (by omega) (by omega)
    have hc9 : ((l2.length * ws : Nat) : Int) = (ws : Int) * (l2.length : Int) := by rw [Int.natCast_mul, Int.mul_comm]
    refine i_mv rfl rfl rfl (i_nil (then_n (r_cond_f rfl (r_skip (block_n (then_n (r_seq (r_items (i_mv rfl rfl rfl ?_)))))))))
    refine i_op (a_lda rfl (by decide) (.next (.next .here)) rfl ?_) rfl rfl
    refine i_fa rfl rfl rfl (i_ld rfl (.next .here) rfl rfl rfl (i_fa rfl rfl rfl (i_ld rfl (.next .here) rfl rfl rfl ?_)))
    refine i_op (a_callV rfl rfl (fun s1 h1 => number_s _ _ _ _ _ _ _ _ _ _ _ _ _ s1 h1.wf (by omega) (hl1.ext hs h1.2.1) (hl2.ext hs h1.2.1) (by omega) (by omega) (by omega)) ?_) rfl rfl
    refine i_op (a_ia (j := l2.length * ws + ww + 1) rfl rfl (by omega) (by omega) ?_) rfl rfl
    refine i_opn (a_stI rfl rfl .here (by first | omega | (simp; done) | (simp [wlen]; omega) | (simp; omega)) ?_) rfl
    refine i_nil (then_n (r_seq (r_items (i_mv rfl rfl rfl (i_mv rfl rfl rfl (i_mv rfl rfl rfl (i_nil (then_n (r_ret ?_)))))))))
    have hfin := outQ_end (P := fun t => t = l2.length * ws + ww + 1) (outQ_set (v := 1) (outQ_start (P := fun _ => False) resW_len (fun _ h => h)) (by first | (simp; done) | (simp; omega)) (by rw [resW_4 hk4, tgt_at (by omega) (by omega), only_at, only_at]; first | done | rfl) (fun t h => .inr h)) (fun t ht => by
      rw [resW_4 hk4]
      refine tgt_zero (fun i9 y9 hy9 ht9 hi9 => ?_)
      by_cases q1 : i9 = ws
      ·by_cases q2 : y9 = ww
       ·subst q1; subst q2; exact absurd ht9 ht
       ·rw [only_ne q2, Int.mul_zero]
      ·rw [only_ne q1, Int.zero_mul])
    exact end2A rfl rfl (.cons_cons _ (.cons _ (.cons _ .slnil))) ⟨b3, by rw [resD_4 hk4], by rw [← hfin]⟩
end
end Ev
end Go.Proofs.YtfhfjcfhanmbiaaGreat
/- Contracts: the weights of a quantity, of any space. -/
namespace Go.Proofs.YtfhfjcfhanmbiaaGreat
open Go Go.RowKit
namespace Ev
theorem gpre_fit {al up : List Int} {n N : Nat} (ha : Bd al 200000000) (hu : Bd up 200000000) : ∀ x ∈ gpre al up n N, -9223372036854775808 ≤ x ∧ x < 9223372036854775808 := by
 intro x hx
 rcases List.mem_cons.1 hx with rfl | hx
 ·decide
 ·obtain ⟨t, _, rfl⟩ := List.mem_map.1 hx
  exact mul_bd (ha _) (hu _)
theorem resW_fit {wk ws ww : Int} {l1 l2 : List Int} (hp1 : Plc 9 100000 l1) (hp2 : Plc 9 100000 l2) (h : wk = 1 → 0 < ww ∧ ww < (l2.length : Int)) : ∀ x ∈ resW wk ws ww l1 l2, -9223372036854775808 ≤ x ∧ x < 9223372036854775808 := by
 refine gpre_fit ?_ ?_
 ·unfold resA; split
  ·exact wts_bd hp1
  ·exact only_bd _
 ·unfold resU; split
  ·rename_i hk
   have := h hk
   exact wts_bd (plc_take hp2 (by omega) (by omega))
  ·split
   ·exact wts_bd hp2
   ·exact only_bd _
theorem plan_small {l1 l2 : List Int} (h : planB l1 l2 = true) : l2.length * l1.length ≤ 10000 := by
 have h1 := (plan_p1 h).hm
 have h2 := (plan_p2 h).hm
 exact Nat.le_trans (Nat.mul_le_mul (show l2.length ≤ 9 by omega) (show l1.length ≤ 9 by omega)) (by decide)
section
variable {X : FuncId → List Value → St → (Value → St → Bool) → Bool}
theorem pWeights_s (n : Nat) (d r al up : Int) (a1 a2 : Option Addr) (c1 c2 : Nat) (l1 l2 : List Int) (wk ws ww : Int) (s : St) (hs : Wf s) (hn : 2814749767106560 ≤ n) (hl1 : IntsE s a1 l1) (hl2 : IntsE s a2 l2) (hc2 : c2 < OPEN) (hlc : l2.length ≤ c2) : Spec Tryz.prog (tabK tabw) X (n + 2700) 23 [.agg ⟨[.int .i64 d, .int .i64 r, .slice a1 l1.length c1, .slice a2 l2.length c2, .int .i64 al, .int .i64 up]⟩, .agg ⟨[.int .i64 wk, .int .i64 ws, .int .i64 ww]⟩] s (fun v A => (((1 ≤ d ∧ d ≤ 99999) ∧ (1 ≤ r ∧ r ≤ 99999) ∧ (0 ≤ al ∧ al ≤ 100000) ∧ (0 ≤ up ∧ up ≤ 100000) ∧ planB l1 l2 = true) ∧ ((wk = 1 ∧ ws = 0 ∧ (0 ≤ ww ∧ ww ≤ (l2.length : Int) - 1) ∧ 0 < ww) ∨ (wk = 2 ∧ ws = 0 ∧ (0 ≤ ww ∧ ww ≤ (l2.length : Int) - 1)) ∨ (wk = 3 ∧ (0 ≤ ws ∧ ws ≤ (l1.length : Int) - 1) ∧ ww = 0) ∨ (wk = 4 ∧ (0 ≤ ws ∧ ws ≤ (l1.length : Int) - 1) ∧ (0 ≤ ww ∧ ww ≤ (l2.length : Int) - 1))) ∧ ∃ b, v = .tuple #[.slice (some ⟨b, 0, none⟩) (l2.length * l1.length + 1) OPEN, .int .i64 (resD wk), .int .i64 0] ∧ A = [.row b 3 true (ints (resW wk ws ww l1 l2))]) ∨ (((1 ≤ d ∧ d ≤ 99999) ∧ (1 ≤ r ∧ r ≤ 99999) ∧ (0 ≤ al ∧ al ≤ 100000) ∧ (0 ≤ up ∧ up ≤ 100000) ∧ planB l1 l2 = true) ∧ ¬ ((wk = 1 ∧ ws = 0 ∧ (0 ≤ ww ∧ ww ≤ (l2.length : Int) - 1) ∧ 0 < ww) ∨ (wk = 2 ∧ ws = 0 ∧ (0 ≤ ww ∧ ww ≤ (l2.length : Int) - 1)) ∨ (wk = 3 ∧ (0 ≤ ws ∧ ws ≤ (l1.length : Int) - 1) ∧ ww = 0) ∨ (wk = 4 ∧ (0 ≤ ws ∧ ws ≤ (l1.length : Int) - 1) ∧ (0 ≤ ww ∧ ww ≤ (l2.length : Int) - 1))) ∧ v = .tuple #[.slice none 0 0, .int .i64 0, .int .i64 33] ∧ A = []) ∨ (¬ ((1 ≤ d ∧ d ≤ 99999) ∧ (1 ≤ r ∧ r ≤ 99999) ∧ (0 ≤ al ∧ al ≤ 100000) ∧ (0 ≤ up ∧ up ≤ 100000) ∧ planB l1 l2 = true) ∧ v = .tuple #[.slice none 0 0, .int .i64 0, .int .i64 30] ∧ A = [])) := by
 refine enter bw23_at rfl hs ?_
 unfold bw23
 have hlen1 := hl1.len
 have hlen2 := hl2.len
 refine r_seq (r_items ?_)
 refine i_op (a_box rfl rfl rfl (fun b1 => ?_)) rfl rfl
 refine i_op (a_box rfl rfl rfl (fun b2 => ?_)) rfl rfl
 refine i_mv rfl rfl rfl (i_mv rfl rfl rfl (i_mv rfl rfl rfl (i_nil (then_n (r_seq (r_seq (r_items ?_)))))))
 refine i_op (a_lda rfl (by decide) (.next .here) rfl ?_) rfl rfl
 refine i_op (a_callE rfl rfl (fun s1 h1 => CheckSpace_s _ _ _ _ _ _ _ _ _ _ _ s1 h1.wf (by omega) (hl1.ext hs h1.2.1) (hl2.ext hs h1.2.1)) (fun h3 => ?_) (fun h3 => ?_)) rfl rfl
 ·have hsp := h3
  have hpl := h3.2.2.2.2
  have hp1 := plan_p1 hpl
  have hp2 := plan_p2 hpl
  refine i_mv rfl rfl rfl (i_nil (then_n (r_seq (r_items (i_mv rfl rfl rfl ?_)))))
  refine i_op (a_neq rfl rfl (fun h => absurd h (by decide)) (fun _ => ?_)) rfl rfl
  refine i_nil (then_n (r_cond_f rfl (r_skip (then_n (r_seq (r_items ?_))))))
  refine i_op (a_lda rfl (by decide) (.next .here) rfl ?_) rfl rfl
  refine i_op (a_lda rfl (by decide) .here rfl ?_) rfl rfl
  refine i_op (a_call rfl rfl (fun s1 h1 => oweightsOf_s _ _ _ _ _ _ _ _ _ _ _ _ _ _ s1 h1.wf (by omega) (hl1.ext hs h1.2.1) (hl2.ext hs h1.2.1) hp1 hp2 hc2 hlc) (fun v1 A1 q1 => ?_)) rfl rfl
  rcases q1 with ⟨hw, b9, rfl, rfl⟩ | ⟨hw, rfl, rfl⟩
  ·refine i_op (a_ext rfl rfl ?_) rfl rfl
   iterate 2 refine i_op (a_ext rfl rfl ?_) rfl rfl
   refine i_mv rfl rfl rfl (i_mv rfl rfl rfl (i_mv rfl rfl rfl (i_nil (then_n (r_ret ?_)))))
   exact end3A rfl rfl rfl (.cons_cons _ (.cons _ (.cons _ .slnil))) (.inl ⟨hsp, by assumption, b9, rfl, rfl⟩)
  ·refine i_op (a_ext rfl rfl ?_) rfl rfl
   iterate 2 refine i_op (a_ext rfl rfl ?_) rfl rfl
   refine i_mv rfl rfl rfl (i_mv rfl rfl rfl (i_mv rfl rfl rfl (i_nil (then_n (r_ret ?_)))))
   exact end3A rfl rfl rfl (List.nil_sublist _) (.inr (.inl ⟨hsp, by assumption, rfl, rfl⟩))
 ·refine i_mv rfl rfl rfl (i_nil (then_n (r_seq (r_items (i_mv rfl rfl rfl ?_)))))
  refine i_op (a_neq rfl rfl (fun _ => ?_) (fun h => absurd h (by decide))) rfl rfl
  refine i_nil (then_n (r_cond_t rfl (r_seq (r_items (i_mv rfl rfl rfl (i_mv rfl rfl rfl (i_mv rfl rfl rfl (i_mv rfl rfl rfl (i_nil (then_n (r_ret (then_r ?_))))))))))))
  exact end3A rfl rfl rfl (List.nil_sublist _) (.inr (.inr ⟨by assumption, rfl, rfl⟩))
theorem qWeights_s (n : Nat) (d r al up : Int) (a1 a2 : Option Addr) (c1 c2 : Nat) (l1 l2 : List Int) (wk ws ww : Int) (s : St) (hs : Wf s) (hn : 2814749767106560 ≤ n) (hl1 : IntsE s a1 l1) (hl2 : IntsE s a2 l2) (hc2 : c2 < OPEN) (hlc : l2.length ≤ c2) : Spec Tryz.prog (tabK tabw) X (n + 2700) 24 [.agg ⟨[.int .i64 d, .int .i64 r, .slice a1 l1.length c1, .slice a2 l2.length c2, .int .i64 al, .int .i64 up]⟩, .agg ⟨[.int .i64 wk, .int .i64 ws, .int .i64 ww]⟩] s (fun v A => (((1 ≤ d ∧ d ≤ 99999) ∧ (1 ≤ r ∧ r ≤ 99999) ∧ (0 ≤ al ∧ al ≤ 100000) ∧ (0 ≤ up ∧ up ≤ 100000) ∧ planB l1 l2 = true) ∧ ((wk = 1 ∧ ws = 0 ∧ (0 ≤ ww ∧ ww ≤ (l2.length : Int) - 1) ∧ 0 < ww) ∨ (wk = 2 ∧ ws = 0 ∧ (0 ≤ ww ∧ ww ≤ (l2.length : Int) - 1)) ∨ (wk = 3 ∧ (0 ≤ ws ∧ ws ≤ (l1.length : Int) - 1) ∧ ww = 0) ∨ (wk = 4 ∧ (0 ≤ ws ∧ ws ≤ (l1.length : Int) - 1) ∧ (0 ≤ ww ∧ ww ≤ (l2.length : Int) - 1))) ∧ ∃ b, v = .tuple #[.slice (some ⟨b, 0, none⟩) (l2.length * l1.length + 1) (l2.length * l1.length + 1), .int .i64 (resD wk), .int .i64 0] ∧ A = [.row b 3 false (ints (resW wk ws ww l1 l2))]) ∨ (((1 ≤ d ∧ d ≤ 99999) ∧ (1 ≤ r ∧ r ≤ 99999) ∧ (0 ≤ al ∧ al ≤ 100000) ∧ (0 ≤ up ∧ up ≤ 100000) ∧ planB l1 l2 = true) ∧ ¬ ((wk = 1 ∧ ws = 0 ∧ (0 ≤ ww ∧ ww ≤ (l2.length : Int) - 1) ∧ 0 < ww) ∨ (wk = 2 ∧ ws = 0 ∧ (0 ≤ ww ∧ ww ≤ (l2.length : Int) - 1)) ∨ (wk = 3 ∧ (0 ≤ ws ∧ ws ≤ (l1.length : Int) - 1) ∧ ww = 0) ∨ (wk = 4 ∧ (0 ≤ ws ∧ ws ≤ (l1.length : Int) - 1) ∧ (0 ≤ ww ∧ ww ≤ (l2.length : Int) - 1))) ∧ v = .tuple #[.slice none 0 0, .int .i64 0, .int .i64 33] ∧ A = []) ∨ (¬ ((1 ≤ d ∧ d ≤ 99999) ∧ (1 ≤ r ∧ r ≤ 99999) ∧ (0 ≤ al ∧ al ≤ 100000) ∧ (0 ≤ up ∧ up ≤ 100000) ∧ planB l1 l2 = true) ∧ v = .tuple #[.slice none 0 0, .int .i64 0, .int .i64 30] ∧ A = [])) := by
 refine enter bw24_at rfl hs ?_
 unfold bw24
 have hlen1 := hl1.len
 have hlen2 := hl2.len
 refine r_seq (r_items ?_)
 refine i_op (a_box rfl rfl rfl (fun b1 => ?_)) rfl rfl
 refine i_op (a_box rfl rfl rfl (fun b2 => ?_)) rfl rfl
 refine i_mv rfl rfl rfl (i_mv rfl rfl rfl (i_mv rfl rfl rfl (i_nil (then_n (r_seq (r_seq (r_items ?_)))))))
 refine i_op (a_lda rfl (by decide) (.next .here) rfl ?_) rfl rfl
 refine i_op (a_callE rfl rfl (fun s1 h1 => rCheckSpace_s _ _ _ _ _ _ _ _ _ _ _ s1 h1.wf (by omega) (hl1.ext hs h1.2.1) (hl2.ext hs h1.2.1)) (fun h3 => ?_) (fun h3 => ?_)) rfl rfl
 ·have hsp := h3
  have hpl := h3.2.2.2.2
  have hp1 := plan_p1 hpl
  have hp2 := plan_p2 hpl
  refine i_op (a_neq rfl rfl (fun h => absurd h (by decide)) (fun _ => ?_)) rfl rfl
  refine i_nil (then_n (r_cond_f rfl (r_skip (then_n (r_seq (r_seq (r_items ?_)))))))
  refine i_op (a_lda rfl (by decide) (.next .here) rfl ?_) rfl rfl
  refine i_op (a_lda rfl (by decide) .here rfl ?_) rfl rfl
  refine i_op (a_callB rfl rfl (fun s1 h1 => isWhat_s _ _ _ _ _ _ _ _ _ _ _ _ _ _ s1 h1.wf (by omega) (hl1.ext hs h1.2.1) (hl2.ext hs h1.2.1)) (fun h5 => ?_) (fun h5 => ?_)) rfl rfl
  ·have hwn := h5
   obtain ⟨ws, rfl⟩ : ∃ q : Nat, ws = (q : Int) := ⟨ws.toNat, by omega⟩
   obtain ⟨ww, rfl⟩ : ∃ q : Nat, ww = (q : Int) := ⟨ww.toNat, by omega⟩
   refine i_op (a_not rfl ?_) rfl rfl
   refine i_nil (then_n (r_cond_f rfl (r_skip (then_n (r_seq (r_items ?_))))))
   refine i_op (a_lda rfl (by decide) (.next .here) rfl ?_) rfl rfl
   refine i_op (a_lda rfl (by decide) .here rfl ?_) rfl rfl
   refine i_op (a_call rfl rfl (fun s1 h1 => oweights_s _ _ _ _ _ _ _ _ _ _ _ _ _ _ s1 h1.wf (by omega) (hl1.ext hs h1.2.1) (hl2.ext hs h1.2.1) hpl hp1 hp2 hc2 hlc (by assumption)) (fun v1 A1 q1 => ?_)) rfl rfl
   obtain ⟨b6, rfl, rfl⟩ := q1
   refine i_mv rfl rfl rfl ?_
   iterate 2 refine i_op (a_ext rfl rfl ?_) rfl rfl
   refine i_mv rfl rfl rfl (i_mv rfl rfl rfl (i_nil (then_n (r_seq (r_items (i_mv rfl rfl rfl (i_mv rfl rfl rfl (i_mv rfl rfl rfl (i_mv rfl rfl rfl (i_mv rfl rfl rfl (i_nil (then_n (r_ret ?_)))))))))))))
   exact end3A rfl rfl rfl (.cons_cons _ (.cons _ (.cons _ .slnil))) (.inl ⟨hsp, by assumption, b6, rfl, rfl⟩)
  ·refine i_op (a_not rfl ?_) rfl rfl
   refine i_nil (then_n (r_cond_t rfl (r_seq (r_items (i_mv rfl rfl rfl (i_mv rfl rfl rfl (i_mv rfl rfl rfl (i_nil (then_n (r_ret (then_r ?_)))))))))))
   exact end3A rfl rfl rfl (List.nil_sublist _) (.inr (.inl ⟨hsp, by assumption, rfl, rfl⟩))
 ·refine i_op (a_neq rfl rfl (fun _ => ?_) (fun h => absurd h (by decide))) rfl rfl
  refine i_nil (then_n (r_cond_t rfl (r_seq (r_items (i_mv rfl rfl rfl (i_mv rfl rfl rfl (i_mv rfl rfl rfl (i_nil (then_n (r_ret (then_r ?_)))))))))))
  exact end3A rfl rfl rfl (List.nil_sublist _) (.inr (.inr ⟨by assumption, rfl, rfl⟩))
end
end Ev
end Go.Proofs.YtfhfjcfhanmbiaaGreat
/- A world as memory that is only read: whatever came in. No program here. -/
namespace Go.Proofs.YtfhfjcfhanmbiaaGreat.Ev
open Go Go.RowKit
noncomputable section
def isCells : Go.Obj → Bool
  | .cells _ _ _ => true
  | _ => false
def wmp (W : World) : Mp := fun i => match W.heap[i]? with
  | some o => if isCells o then some (i, 0) else none
  | none => none
open Classical in
def romOf (W : World) : Go.Obj → CObj
  | .cells cs _ _ => .rom (fun j => match cs[j]? with | some v => if VR (wmp W) v v ∧ oneCell v = true then some v else none | none => none)
  | _ => .dead
def wst (W : World) : St := ⟨BT.ofList (W.heap.toList.map (romOf W)), W.heap.size⟩
theorem ofList_full {α : Type} (l : List α) : Full (BT.ofList l) l.length := by
  have := full_adds (l := l) (t := (.leaf : BT α)) (n := 0) (by simp [Full])
  rw [Nat.zero_add] at this
  exact this
theorem ofList_at {α : Type} {l : List α} {i : Nat} {v : α} (h : l[i]? = some v) : (BT.ofList l).get i = some v := by
  have hi : i < l.length := (List.getElem?_eq_some_iff.1 h).1
  obtain ⟨u, hu⟩ := Option.isSome_iff_exists.1 ((ofList_full l).some i hi)
  have := ofList_get hu
  rw [h] at this; cases this; exact hu
theorem wst_wf (W : World) : Wf (wst W) := by
  have := ofList_full (W.heap.toList.map (romOf W))
  simpa [wst, Wf] using this
theorem wst_at {W : World} {b : Nat} {o : Go.Obj} (h : W.heap[b]? = some o) : (wst W).h.get b = some (romOf W o) := by
  refine ofList_at ?_
  rw [List.getElem?_map]
  have : W.heap.toList[b]? = some o := by simpa using h
  rw [this]; rfl
theorem wmp_inv {W : World} {i x y : Nat} (h : wmp W i = some (x, y)) : x = i ∧ ∃ cs e fr, W.heap[i]? = some (.cells cs e fr) := by
  unfold wmp at h
  split at h
  · rename_i o ho
    cases o with
    | cells cs e fr => simp [isCells] at h; exact ⟨h.1.symm, cs, e, fr, ho⟩
    | _ => simp [isCells] at h
  · cases h
theorem wmp_of {W : World} {i : Nat} {cs : Array Value} {e : Nat} {fr : Nat × Nat} (h : W.heap[i]? = some (.cells cs e fr)) : wmp W i = some (i, 0) := by
  unfold wmp; rw [h]; rfl
theorem emb_world (P : Program) (W : World) : Emb P (fun _ => none) W.heap.size (wmp W) (wst W) W := by
  refine ⟨fun i x y hi => ?_, fun i p hi => ?_, fun i x y o hi ho => ?_, fun i j x y y' hi hj hij hB => ?_, Nat.le_refl _, fun i o h => by cases h⟩
  · obtain ⟨rfl, cs, e, fr, h⟩ := wmp_inv hi
    exact ⟨.inr ⟨_, wst_at h⟩, (Array.getElem?_eq_some_iff.1 h).1⟩
  · obtain ⟨x, y⟩ := p
    obtain ⟨_, cs, e, fr, h⟩ := wmp_inv hi
    exact (Array.getElem?_eq_some_iff.1 h).1
  · obtain ⟨rfl, cs, e, fr, h⟩ := wmp_inv hi
    have h1 := wst_at h
    rw [ho] at h1
    have h2 : o = romOf W (.cells cs e fr) := Option.some.inj h1
    subst h2
    refine ⟨_, h, cs, e, fr, rfl, fun j v hj => ?_⟩
    dsimp only at hj
    split at hj
    · rename_i u hu
      split at hj
      · rename_i hc
        cases hj
        exact ⟨hc.2, _, hu, hc.1⟩
      · cases hj
    · cases hj
  · obtain ⟨rfl, cs, e, fr, h⟩ := wmp_inv hi
    have := (Array.getElem?_eq_some_iff.1 h).1
    omega
theorem at_world {W : World} {b o : Nat} {v : Value} (h : W.cell? ⟨b, o, none⟩ = some v) (hv : VR (wmp W) v v) (h1 : oneCell v = true) : At (wst W) b o v := by
  have hb : ∃ cs e fr, W.heap[b]? = some (.cells cs e fr) ∧ cs[o]? = some v := by
    unfold World.cell? at h
    dsimp only at h
    split at h
    · rename_i cs e fr hh; exact ⟨cs, e, fr, by first | exact hh | exact hh.1, h⟩
    · cases h
  obtain ⟨cs, e, fr, h2, h3⟩ := hb
  refine ⟨_, .inr (wst_at h2), ?_⟩
  simp [h3, hv, h1]
theorem Emb.below {P : Program} {K : Kp} {B : Nat} {m : Mp} {s : St} {w w' : World} (E : Emb P K B m s w) (h : Below w.heap.size w w') : Emb P K B m s w' := by
  have hs : w.heap.size ≤ w'.heap.size := h.size
  refine ⟨fun i x y hi => ⟨(E.low i x y hi).1, Nat.lt_of_lt_of_le (E.low i x y hi).2 hs⟩, E.old, fun i x y o hi ho => ?_, E.inj, Nat.le_trans E.base hs, E.kept⟩
  obtain ⟨o', h1, h2⟩ := E.obj i x y o hi ho
  exact ⟨o', (h.block x (E.low i x y hi).2).trans h1, h2⟩
def knownX (g : Nat) : FuncId → List Value → St → (Value → St → Bool) → Bool := fun f vs s k => Nat.beq f g && (match vs with | [] => true | _ => false) && k (.bool true) s
theorem known_ok {P : Program} {g : Nat} {c : CF} (hc : compF P g = some c) (h : ∀ w, Calls P g #[] w fun e w' => e = .returned (.bool true) ∧ Below w.heap.size w w') : KnownOk P (knownX g) := by
  intro K B f vs s k hk m w us E hv
  unfold knownX at hk
  simp only [Bool.and_eq_true] at hk
  obtain ⟨⟨h1, h2⟩, h3⟩ := hk
  have hf : f = g := by simpa using h1
  subst hf
  cases vs with
  | cons v l => cases h2
  | nil =>
    have : us = [] := by simpa only [LR] using hv
    subst this
    obtain ⟨fn, cd, r, e1, e2, e3, e4, _⟩ := compF_inv hc
    refine ⟨fun w => ?_, CallsIn.mono ((callsIn_wide (n := 0)).2 (h w)) (fun e w' he => ?_)⟩
    · have h4' : ¬ fn.name = "runtime.NumGoroutine" := by simpa using e4
      simp [callFunc, e1, e2, h4']
    · obtain ⟨rfl, hb⟩ := he
      exact ⟨.bool true, s, m, h3, Mp.le_refl m, E.below hb, hb.mono E.base, by simp only [VR]⟩
theorem known_s {P : Program} {C : Nat → (CF → Bool) → Bool} {g : Nat} (n : Nat) (s : St) (hs : Wf s) : Spec P C (knownX g) n g [] s (fun v A => v = .bool true ∧ A = []) := by
  intro k hk
  have h1 : knownX g g [] s k = true := by
    unfold knownX
    rw [hk _ s ⟨[], Hld.start hs, rfl, rfl⟩, show Nat.beq g g = true from by rw [Nat.beq_eq]]; rfl
  cases n with
  | zero => exact h1
  | succ n =>
    show (knownX g g [] s k || _) = true
    rw [h1]; rfl
theorem law_open {P : Program} {t : BT (Option CF)} (h : Holds P t 0 1) {X : FuncId → List Value → St → (Value → St → Bool) → Bool} (hX : KnownOk P X) {n : Nat} {f : FuncId} {vs us : List Value} {W : World} (hs : Spec P (tabK t) X n f vs (wst W) (fun v A => v = .bool true ∧ A = [])) (hv : LR (wmp W) vs us) :
    Calls P f ⟨us⟩ W (fun e w' => e = .returned (.bool true) ∧ Below W.heap.size W w') := by
  refine Calls.mono (open_ok h hX (k := fun v _ => trueK v) (hs _ (fun v s' hq => by obtain ⟨A, _, rfl, _⟩ := hq; rfl)) (emb_world P W) hv) (fun e w' he => ?_)
  obtain ⟨u, rfl, h1, v, s', m', h2, _, _, h3⟩ := he
  obtain ⟨b, rfl, h4⟩ := onBool_inv (k := fun b => b) h2
  have hb : b = true := h4
  subst hb
  have : u = .bool true := by simpa only [VR] using h3
  exact ⟨by rw [this], h1⟩
theorem VR.int {m : Mp} (k : IntKind) (n : Int) : VR m (.int k n) (.int k n) := by simp only [VR]
theorem VR.slice0 {m : Mp} : VR m (.slice none 0 0) (.slice none 0 0) := by simp only [VR]; exact ⟨by decide, trivial⟩
theorem VR.slice1 {W : World} {b o n c : Nat} {cs : Array Value} {e : Nat} {fr : Nat × Nat} (h : W.heap[b]? = some (.cells cs e fr)) (hc : c < OPEN) : VR (wmp W) (.slice (some ⟨b, o, none⟩) n c) (.slice (some ⟨b, o, none⟩) n c) := by
  simp only [VR]
  refine ⟨trivial, ?_⟩
  rw [if_pos hc]
  exact ⟨b, 0, wmp_of h, rfl⟩
theorem VR.agg {m : Mp} {l l' : List Value} (h : LR m l l') : VR m (.agg ⟨l⟩) (.agg ⟨l'⟩) := by
  simp only [VR, AR]
  exact ⟨_, rfl, l', rfl, h⟩
theorem LR.nil {m : Mp} : LR m [] [] := by simp only [LR]
theorem LR.cons {m : Mp} {v v' : Value} {l l' : List Value} (h : VR m v v') (hl : LR m l l') : LR m (v :: l) (v' :: l') := by
  simp only [LR]
  exact ⟨v', l', rfl, h, hl⟩
def NiceS (W : World) (a : Option Addr) (n c : Nat) : Prop := (a = none ∧ n = 0 ∧ c = 0) ∨ ∃ b o cs e fr, a = some ⟨b, o, none⟩ ∧ W.heap[b]? = some (.cells cs e fr) ∧ c < OPEN
theorem NiceS.vr {W : World} {a : Option Addr} {n c : Nat} (h : NiceS W a n c) : VR (wmp W) (.slice a n c) (.slice a n c) := by
  rcases h with ⟨rfl, rfl, rfl⟩ | ⟨b, o, cs, e, fr, rfl, h, hc⟩
  · exact VR.slice0
  · exact VR.slice1 h hc
theorem NiceS.spot {W : World} {a : Option Addr} {n c : Nat} (h : NiceS W a n c) : ∀ b, a = some b → b.spot = none := by
  rcases h with ⟨rfl, rfl, rfl⟩ | ⟨b, o, cs, e, fr, rfl, h, hc⟩
  · intro b hb; cases hb
  · intro b hb; cases hb; rfl
theorem cell_niceS {P : Program} {W : World} {r : Reach} {b0 : Nat} {t e : TypeId} {v : Value} (ht : P.underlying t = some (.slice e)) (h : Cell.okWide P W r b0 t v) : ∃ a n c, v = .slice a n c ∧ NiceS W a n c := by
  simp only [Cell.okWide, ht] at h
  unfold Cell.ok at h
  rw [ht] at h
  split at h
  all_goals first
    | exact absurd h id
    | (rename_i h1; cases h1; done)
    | exact ⟨_, _, _, rfl, .inl ⟨rfl, rfl, rfl⟩⟩
    | skip
  all_goals first
    | (rename_i a len cap _; obtain ⟨h1, h2, _, hs, row, cells, h3, _⟩ := h
       refine ⟨_, _, _, rfl, .inr ?_⟩
       obtain ⟨b, o, spot⟩ := a
       have hs' : spot = none := hs
       subst hs'
       unfold World.shape? at h3
       split at h3
       · rename_i cs e' fr hh
         exact ⟨b, o, _, _, _, rfl, hh, by simp [IntKind.max, IntKind.signed, IntKind.bits] at h2; unfold OPEN; omega⟩
       · cases h3)
    | simp_all
end
end Go.Proofs.YtfhfjcfhanmbiaaGreat.Ev
