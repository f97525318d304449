import Derived.Test.YtoeklhdklcpllaaZe09
set_option linter.unusedVariables false
set_option linter.unusedSimpArgs false
namespace Go.Proofs.Ytoeklhdklcpllaa
open Go Go.RowKit
namespace Ev
def rowT (T : Nat -> Nat -> Int) (n i : Nat) : List Int := (List.range n).map (T i)
def updT (T : Nat -> Nat -> Int) (i k : Nat) (v : Int) : Nat -> Nat -> Int := fun a b => if a = i /\ b = k then v else T a b
theorem rowT_set {T : Nat -> Nat -> Int} {n i k : Nat} {v : Int} : (rowT T n i).set k v = rowT (updT T i k v) n i := by
 unfold rowT
 refine List.ext_getElem? (fun j => ?_)
 rw [List.getElem?_set, List.getElem?_map, List.getElem?_map]
 by_cases hj : k = j
 ·subst hj
  rw [if_pos rfl]
  by_cases hk : k < n
  ·rw [if_pos (by simpa using hk), List.getElem?_range hk]; simp [updT]
  ·rw [if_neg (by simpa using hk), List.getElem?_eq_none (by simp; omega)]; rfl
 ·rw [if_neg hj]
  by_cases hk : j < n
  ·rw [List.getElem?_range hk]; simp [updT]; intro h; omega
  ·rw [List.getElem?_eq_none (by simp; omega)]; rfl
def seg (B : Nat -> Nat) (n : Nat) (T : Nat -> Nat -> Int) : Nat -> List Ob
 | 0 => []
 | i + 1 => .row (B i) 3 false (ints (rowT T n i)) :: seg B n T i
def updB (B : Nat -> Nat) (i b : Nat) : Nat -> Nat := fun j => if j = i then b else B j
def nam (r : List Int) (v : Nat) : Prop := r.getD 0 0 = (v : Int) ∨ r.getD 1 0 = (v : Int)
instance (r : List Int) (v : Nat) : Decidable (nam r v) := inferInstanceAs (Decidable (_ ∨ _))
def nl (ls : List (List Int)) : Nat -> Nat -> List Int
 | 0, _ => []
 | k + 1, v => nl ls k v ++ (if nam (ls.getD k []) v then [(k : Int)] else [])
def updL (L : Nat -> List Int) (v : Nat) (l : List Int) : Nat -> List Int := fun w => if w = v then l else L w
theorem nl_step {ls : List (List Int)} {k u0 u1 : Nat} {y2 y3 : Int} (h : ls[k]? = some [(u0 : Int), (u1 : Int), y2, y3]) (hne : ¬ u0 = u1) : nl ls (k + 1) = updL (updL (nl ls k) u0 (nl ls k u0 ++ [(k : Int)])) u1 (nl ls k u1 ++ [(k : Int)]) := by
 funext v
 have e : ls.getD k [] = [(u0 : Int), (u1 : Int), y2, y3] := by rw [List.getD_eq_getElem?_getD, h]; rfl
 show nl ls k v ++ (if nam (ls.getD k []) v then [(k : Int)] else []) = _
 rw [e]
 unfold updL
 by_cases h1 : v = u1
 ·subst h1
  rw [if_pos rfl, if_pos (.inr rfl)]
 ·rw [if_neg h1]
  by_cases h0 : v = u0
  ·subst h0
   rw [if_pos rfl, if_pos (.inl rfl)]
  ·rw [if_neg h0, if_neg (fun q => by rcases q with q | q <;> (simp at q; omega)), List.append_nil]
def nobj (B : Nat -> Nat) (L : Nat -> List Int) (O : List Nat) : List Ob := O.map fun v => .row (B v) 3 true (ints (L v))
def nsv (B : Nat -> Nat) (L : Nat -> List Int) (v : Nat) : Value := if L v = [] then .slice none 0 0 else .slice (some ⟨B v, 0, none⟩) (L v).length OPEN
def nsl (B : Nat -> Nat) (L : Nat -> List Int) (N : Nat) : List Value := (List.range N).map (nsv B L)
theorem nsl_len {B : Nat -> Nat} {L : Nat -> List Int} {N : Nat} : (nsl B L N).length = N := by simp [nsl]
theorem nsl_get {B : Nat -> Nat} {L : Nat -> List Int} {N v : Nat} (h : v < N) : (nsl B L N)[0 + v * 1]? = some (nsv B L v) := by
 unfold nsl
 rw [Nat.zero_add, Nat.mul_one, List.getElem?_map, List.getElem?_range h]; rfl
theorem nsv_ne {B : Nat -> Nat} {L : Nat -> List Int} {v w b : Nat} {l : List Int} (h : ¬ w = v) : nsv (updB B v b) (updL L v l) w = nsv B L w := by
 unfold nsv updB updL
 rw [if_neg h, if_neg h]
theorem nsl_set {B : Nat -> Nat} {L : Nat -> List Int} {N v b m : Nat} {z : Int} (hm : (L v).length + m = (L v ++ [z]).length := by simp) : (nsl B L N).set (0 + v * 1) (.slice (some ⟨b, 0, none⟩) ((L v).length + m) OPEN) = nsl (updB B v b) (updL L v (L v ++ [z])) N := by
 unfold nsl
 refine List.ext_getElem? (fun j => ?_)
 rw [Nat.zero_add, Nat.mul_one, List.getElem?_set, List.getElem?_map, List.getElem?_map]
 by_cases hj : v = j
 ·subst hj
  rw [if_pos rfl]
  by_cases hk : v < N
  ·rw [if_pos (by simpa using hk), List.getElem?_range hk]
   simp only [Option.map_some, nsv, updL, updB, if_true]
   rw [if_neg (by simp), hm]
  ·rw [if_neg (by simpa using hk), List.getElem?_eq_none (by simp; omega)]; rfl
 ·rw [if_neg hj]
  by_cases hk : j < N
  ·rw [List.getElem?_range hk]
   simp only [Option.map_some]
   rw [nsv_ne (fun q => hj q.symm)]
  ·rw [List.getElem?_eq_none (by simp; omega)]; rfl
theorem nsl_set2 {B : Nat -> Nat} {L : Nat -> List Int} {N u w b0 b m : Nat} {l0 : List Int} {z : Int} (h : ¬ w = u) (hm : (L w).length + m = (L w ++ [z]).length := by simp) : (nsl (updB B u b0) (updL L u l0) N).set (0 + w * 1) (.slice (some ⟨b, 0, none⟩) ((L w).length + m) OPEN) = nsl (updB (updB B u b0) w b) (updL (updL L u l0) w (L w ++ [z])) N := by
 have e : updL L u l0 w = L w := if_neg h
 have := nsl_set (B := updB B u b0) (L := updL L u l0) (N := N) (v := w) (b := b) (m := m) (z := z) (by rw [e]; exact hm)
 rwa [e] at this
theorem nsl_nil {N : Nat} {ls : List (List Int)} {B : Nat -> Nat} : List.replicate N (.slice none 0 0) = nsl B (nl ls 0) N := by
 unfold nsl
 refine List.ext_getElem? (fun j => ?_)
 rw [List.getElem?_replicate, List.getElem?_map]
 by_cases h : j < N
 ·rw [if_pos h, List.getElem?_range h]; rfl
 ·rw [if_neg h, List.getElem?_eq_none (by simp; omega)]; rfl
def NO (O : List Nat) (N : Nat) (L : Nat -> List Int) : Prop := O.Nodup /\ ∀ v, v < N -> (v ∈ O ↔ L v ≠ [])
theorem NO.zero {N : Nat} {ls : List (List Int)} : NO [] N (nl ls 0) := ⟨List.nodup_nil, fun v _ => ⟨fun h => absurd h (List.not_mem_nil), fun h => absurd rfl h⟩⟩
theorem NO.put {O : List Nat} {N : Nat} {L : Nat -> List Int} {v : Nat} {l : List Int} (h : NO O N L) (hl : l ≠ []) : NO (v :: O.erase v) N (updL L v l) := by
 refine ⟨List.nodup_cons.2 ⟨fun q => (h.1.mem_erase_iff.1 q).1 rfl, h.1.erase v⟩, fun w hw => ?_⟩
 unfold updL
 rw [List.mem_cons]
 by_cases q : w = v
 ·subst q; rw [if_pos rfl]; exact ⟨fun _ => hl, fun _ => .inl rfl⟩
 ·rw [if_neg q, h.1.mem_erase_iff]
  exact ⟨fun z => by
   rcases z with z | z; · exact absurd z q
   ·exact (h.2 w hw).1 z.2, fun z => .inr ⟨q, (h.2 w hw).2 z⟩⟩
theorem del_nobj {B : Nat -> Nat} {L : Nat -> List Int} {R : List Ob} {v : Nat} : ∀ {O : List Nat}, v ∈ O -> Del (nobj B L O ++ R) (B v) 3 true (ints (L v)) (nobj B L (O.erase v) ++ R)
 | w :: O, h => by
  by_cases q : w = v
  ·subst q
   rw [List.erase_cons_head]
   exact .here
  ·rw [List.erase_cons_tail (by simpa using q)]
   refine .next (del_nobj ?_)
   rcases List.mem_cons.1 h with h | h
   ·exact absurd h.symm q
   ·exact h
theorem nobj_congr {B B' : Nat -> Nat} {L L' : Nat -> List Int} : ∀ {O : List Nat}, (∀ v ∈ O, B v = B' v /\ L v = L' v) -> nobj B L O = nobj B' L' O
 | [], _ => rfl
 | w :: O, h => by
  obtain ⟨h1, h2⟩ := h w (by simp)
  show Ob.row (B w) 3 true (ints (L w)) :: nobj B L O = Ob.row (B' w) 3 true (ints (L' w)) :: nobj B' L' O
  rw [h1, h2, nobj_congr (fun v hv => h v (by simp [hv]))]
theorem nobj_put {B : Nat -> Nat} {L : Nat -> List Int} {O : List Nat} {v b : Nat} {l : List Int} (h : O.Nodup) : .row b 3 true (ints l) :: nobj B L (O.erase v) = nobj (updB B v b) (updL L v l) (v :: O.erase v) := by
 show _ = Ob.row (updB B v b v) 3 true (ints (updL L v l v)) :: nobj (updB B v b) (updL L v l) (O.erase v)
 rw [show updB B v b v = b by simp [updB], show updL L v l v = l by simp [updL], nobj_congr (B := B) (B' := updB B v b) (L := L) (L' := updL L v l) (fun w hw => by
  have : w ≠ v := fun q => (h.mem_erase_iff.1 (q ▸ hw)).1 rfl
  simp [updB, updL, this])]
theorem a_nap {P : Program} {C : Nat -> (CF -> Bool) -> Bool} {X : FuncId -> List Value -> St -> (Value -> St -> Bool) -> Bool} {s0 : St} {n nt : Nat} {env : List (Nat × Value)} {A A' : List Ob} {R : Value -> List Ob -> Prop} {bytes v : Nat} {B : Nat -> Nat} {L : Nat -> List Int} {z0 : List Value} {zs : List Int} {x y : Ev.X} {yv : Value} (hx : xv env x = some (nsv B L v)) (hy : xv env y = some yv) (hsrc : Src s0 A 1 1 (ints zs) yv) (hn : L v = [] -> A' = A) (hd : L v ≠ [] -> Del A (B v) 3 true (ints (L v)) A') (hb1 : (L v).length + 1 <= 1048576) (hb2 : bytes * ((L v).length + 1) <= 1073741824)
 (h : ∀ b, R (.slice (some ⟨b, 0, none⟩) ((L v).length + 1) OPEN) (.row b 3 true (ints (L v ++ zs)) :: A')) : OpA P C X s0 n nt (.app 3 1 bytes z0 false x y) env A R := by
 have hz : zs.length = 1 := by
  have := hsrc.choose_spec
  obtain ⟨_, _, _, _, hml, _⟩ := hsrc
  simpa [ints] using hml
 by_cases q : L v = []
 ·have e : nsv B L v = .slice none 0 0 := if_pos q
  rw [e] at hx
  rw [hn q] at h
  rw [q] at h hb1 hb2
  exact a_appn hx hy hsrc (by decide) hb1 hb2 h
 ·have e : nsv B L v = .slice (some ⟨B v, 0, none⟩) (L v).length OPEN := if_neg q
  rw [e] at hx
  refine a_app hx hy hsrc (hd q) (by simp [ints]) (.inl ⟨rfl, rfl⟩) (by decide) hb1 hb2 (fun b => ?_)
  have := h b
  rwa [show ints (L v ++ zs) = ints (L v) ++ ints zs by simp [ints]] at this
theorem nl_len {ls : List (List Int)} {k : Nat} (h : ∀ v, (nl ls k v).length <= k) (v : Nat) : (nl ls (k + 1) v).length <= k + 1 := by
 have := h v
 show (nl ls k v ++ _).length <= _
 rw [List.length_append]
 split <;> simp <;> omega
theorem nobj_no {B : Nat -> Nat} {L : Nat -> List Int} {O : List Nat} {v : Nat} (h : ¬ v ∈ O) : nobj B L (O.erase v) = nobj B L O := by rw [List.erase_of_not_mem h]
theorem erase_two {O : List Nat} {u0 u1 : Nat} (h : ¬ u0 = u1) : (u0 :: O.erase u0).erase u1 = u0 :: (O.erase u0).erase u1 := List.erase_cons_tail (by simpa using h)
theorem NO.put2 {O : List Nat} {N : Nat} {L : Nat -> List Int} {v w : Nat} {l : List Int} (h : NO (v :: O.erase v) N L) (hne : ¬ v = w) (hl : l ≠ []) : NO (w :: (v :: O.erase v).erase w) N (updL L w l) := h.put hl
theorem nobj_two {B : Nat -> Nat} {L : Nat -> List Int} {O : List Nat} {R : List Ob} {u0 u1 b0 b1 : Nat} {l0 l1 : List Int} (h : O.Nodup) (hne : ¬ u0 = u1) : .row b1 3 true (ints l1) :: .row b0 3 true (ints l0) :: (nobj B L ((O.erase u0).erase u1) ++ R) = nobj (updB (updB B u0 b0) u1 b1) (updL (updL L u0 l0) u1 l1) (u1 :: (u0 :: O.erase u0).erase u1) ++ R := by
 have h2 : (u0 :: O.erase u0).Nodup := List.nodup_cons.2 ⟨fun q => (h.mem_erase_iff.1 q).1 rfl, h.erase u0⟩
 have e : nobj (updB B u0 b0) (updL L u0 l0) ((u0 :: O.erase u0).erase u1) = .row b0 3 true (ints l0) :: nobj B L ((O.erase u0).erase u1) := by
  rw [erase_two hne]
  show Ob.row (updB B u0 b0 u0) 3 true (ints (updL L u0 l0 u0)) :: nobj (updB B u0 b0) (updL L u0 l0) ((O.erase u0).erase u1) = _
  rw [show updB B u0 b0 u0 = b0 by simp [updB], show updL L u0 l0 u0 = l0 by simp [updL], nobj_congr (B := updB B u0 b0) (B' := B) (L := updL L u0 l0) (L' := L) (fun w hw => by
   have : w ≠ u0 := fun q => (h.mem_erase_iff.1 (q ▸ List.mem_of_mem_erase hw)).1 rfl
   simp [updB, updL, this])]
 rw [<- nobj_put (B := updB B u0 b0) (L := updL L u0 l0) (O := u0 :: O.erase u0) (v := u1) (b := b1) (l := l1) h2, e]; rfl
section
variable {X : FuncId -> List Value -> St -> (Value -> St -> Bool) -> Bool}
theorem newFlow_s (n : Nat) (M : Nat) (al : Option Addr) (cl : Nat) (ls : List (List Int)) (s : St) (hs : Wf s) (hn : 844424930131968 <= n) (hL : RowsE s 4 al ls) (hM : M <= 64) (h400 : ls.length <= 400) (hlm : lmB (M : Int) ls = true) : Spec Try.prog (tabK tabw) X (n + 900) 38 [.agg ⟨[.int .i64 (M : Int), .slice al ls.length cl]⟩] s (fun v A => ∃ b bt bn O B, v = .pointer (some ⟨b, 0, none⟩) /\ A = nobj B (nl ls ls.length) O ++ [.row b 93 false [.int .i64 (M : Int), .slice al ls.length cl, .slice (some ⟨bt, 0, none⟩) ls.length ls.length, .slice (some ⟨bn, 0, none⟩) (M + 1) (M + 1)], .row bn 25 false (nsl B (nl ls ls.length) (M + 1)), .row bt 3 false (ints (List.replicate ls.length 0))] /\ NO O (M + 1) (nl ls ls.length)) := by
 refine enter bw38_at rfl hs ?_
 unfold bw38
 have hlen := hL.len
 refine rS (kO rfl (a_box rfl rfl rfl (fun b1 => (kM rfl rfl (i_nil (rS (kO rfl (a_lda rfl (by decide) .here rfl (kO rfl (a_fa rfl (kO rfl (a_ld rfl .here rfl (kO rfl (a_lenx rfl hL.spot (kO rfl (a_mksI (m := ls.length) (c := ls.length) rfl rfl (by omega) (by omega) (by omega) (fun b2 => (kO rfl (a_fa rfl (kO rfl (a_ld rfl (.next .here) rfl (kO rfl (a_add rfl rfl (by omega) (kO rfl (a_mks1 (m := M + 1) (c := M + 1) rfl rfl (by omega) (by omega) (by omega) (fun b3 => (kO rfl (a_build rfl rfl (kO rfl (a_box rfl rfl rfl (fun b4 => (kM rfl rfl (i_nil (rQ (rS (kO rfl (a_fa rfl (kO rfl (a_ld rfl (.next (.next (.next .here))) rfl (kO rfl (a_lenx rfl hL.spot (kM rfl rfl ?_))))))))))))))))))))))))))))))))))))))))))
 refine i_nil (r_block ?_)
 rw [nsl_nil (ls := ls) (B := fun _ => 0)]
 refine r_loop (fun j e A => ∃ (k : Nat) (O : List Nat) (B : Nat -> Nat), e = [(1, .pointer (some ⟨b1, 0, none⟩)), (3, .pointer (some ⟨b4, 0, none⟩)), (18, .slice al ls.length cl), (19, .int .i64 (ls.length : Int)), (20, .int .i64 (k : Int))] /\ A = (nobj B (nl ls k) O ++ (.row b4 93 false ([.int .i64 (M : Int), .slice al ls.length cl, .slice (some ⟨b2, 0, none⟩) ls.length ls.length, .slice (some ⟨b3, 0, none⟩) (M + 1) (M + 1)]) :: (.row b3 25 false (nsl B (nl ls k) (M + 1)) :: (.row b2 3 false (ints (List.replicate ls.length 0)) :: (.row b1 29 false ([.int .i64 (M : Int), .slice al ls.length cl]) :: []))))) /\ j = ls.length - k /\ k <= ls.length /\ NO O (M + 1) (nl ls k) /\ ∀ v, (nl ls k v).length <= k) 600 0 281474976710656 ?_ (j := _) (env2 := _) (A2 := _) ?_ ?_ ?_ ?_ ⟨0, [], fun _ => 0, rfl, rfl, rfl, Nat.zero_le _, NO.zero, (fun _ => Nat.le_refl _)⟩
 rotate_left
 ·omega
 ·omega
 ·exact (lc 1 rfl (lc 3 rfl (lc 18 rfl (lc 19 rfl (lc 20 rfl Less.nil)))))
 ·exact (.q (.q (.q (.q .slnil))))
 rintro n hn j _ _ ⟨k, O, B, rfl, rfl, rfl, hk, hO, hnl⟩
 refine rS (kO rfl (a_lss rfl rfl (fun h5 => ?_) (fun h5 => ?_)))
 ·obtain ⟨q4, o4, y0, y1, y2, y3, ahL, hx, hat, i0, i1, i2, i3⟩ := hL.row4 (k := k) (by omega)
  have hat2 := hat
  obtain ⟨d0, d1, d2, d3, _⟩ := hat2
  have := i0.lo; have := i0.hi
  have := i1.lo; have := i1.hi
  have := i2.lo; have := i2.hi
  have := i3.lo; have := i3.hi
  have hc4 := lmB_at hlm hx
  obtain ⟨u0, rfl⟩ : ∃ q : Nat, y0 = (q : Int) := ⟨y0.toNat, by omega⟩
  obtain ⟨u1, rfl⟩ : ∃ q : Nat, y1 = (q : Int) := ⟨y1.toNat, by omega⟩
  have hl0 := hnl u0
  have hl1 := hnl u1
  refine i_nil (rQ (r_cond_t rfl (r_skip (then_n (rQ (r_block (rS (kM rfl rfl (kO rfl (a_iaA (j := k) ahL rfl rfl (by first | rfl | omega) (by first | decide | omega) (kO rfl (a_ldar rfl (by decide) (by assumption) rfl (kO rfl (a_new rfl rfl (fun b6 => (kM rfl rfl (kZ rfl (a_sta rfl rfl .here rfl rfl rfl rfl (i_nil (rS (kM rfl rfl (kO rfl (a_nilc rfl (kO rfl (a_fa rfl (kO rfl (a_ld rfl (.next (.app .here)) rfl (kO rfl (a_fa rfl (kO rfl (a_ld rfl .here rfl (kM rfl rfl (kO rfl (a_nilc rfl ?_))))))))))))))))))))))))))))))))))
  refine kO rfl (a_fa rfl (kO rfl (a_ld rfl (.next (.app .here)) rfl (kO rfl (a_fa rfl (kO rfl (a_ld rfl .here rfl (kO rfl (a_ia (j := u0) rfl rfl (by omega) (by omega) (kO rfl (a_ld rfl (.next (.app (.next .here))) (nsl_get (by omega)) (kM rfl rfl (kO rfl (a_lit rfl rfl rfl (fun b7 => (kO rfl (a_nap (zs := [_]) rfl rfl (Src.own .here rfl (by simp [ints])) (fun h => by rw [nobj_no (show ¬ u0 ∈ O from fun q => (hO.2 _ (by omega)).1 q h)]) (fun h => .next (.next (del_nobj ((hO.2 _ (by omega)).2 h)))) (by omega) (by omega) (fun b8 => (kZ rfl (a_again rfl rfl (.next (.next .here)) rfl (by simp [eqV, eqA, eqL, kindEq, intEq_eq, eqV_sl hL.spot]) (kZ rfl (a_again rfl rfl (.next (.next (.next (.app .here)))) rfl (by simp [eqV, eqA, eqL, kindEq, intEq_eq, eqV_sl hL.spot]) (kO rfl (a_ia (j := u0) rfl rfl (by omega) (by omega) (kZ rfl (a_st rfl rfl (by rw [nsl_set (z := (k : Int))]; exact (.next (.next (.next (.app (.next .here)))))) (by rw [Nat.blt_eq, nsl_len]; omega) rfl (i_nil (rI (kM rfl rfl (kO rfl (a_nilc rfl (kO rfl (a_fa rfl (kO rfl (a_ld rfl (.next (.next (.next (.app .here)))) rfl (kO rfl (a_fa rfl (kO rfl (a_ld rfl (.next (.next .here)) rfl (kM rfl rfl (kO rfl (a_nilc rfl (kO rfl (a_fa rfl ?_))))))))))))))))))))))))))))))))))))))))))))
  refine kO rfl (a_ld rfl (.next (.next (.next (.app .here)))) rfl (kO rfl (a_fa rfl (kO rfl (a_ld rfl (.next (.next .here)) rfl (kO rfl (a_ia (j := u1) rfl rfl (by omega) (by omega) (kO rfl (a_ld rfl (.next (.next (.next (.app (.next .here))))) (by rw [nsl_get (by omega), nsv_ne (by omega)]) (kM rfl rfl (kO rfl (a_lit rfl rfl rfl (fun b9 => (kO rfl (a_nap (zs := [_]) rfl rfl (Src.own .here rfl (by simp [ints])) (fun h => by rw [nobj_no (show ¬ u1 ∈ O.erase u0 from fun q => (hO.2 _ (by omega)).1 (List.mem_of_mem_erase q) h)]) (fun h => .next (.next (.next (.next (del_nobj ((List.mem_erase_of_ne (by omega)).2 ((hO.2 _ (by omega)).2 h))))))) (by omega) (by omega) (fun b10 => (kZ rfl (a_again rfl rfl (.next (.next (.next (.next .here)))) rfl (by simp [eqV, eqA, eqL, kindEq, intEq_eq, eqV_sl hL.spot]) (kZ rfl (a_again rfl rfl (.next (.next (.next (.next (.next (.app .here)))))) rfl (by simp [eqV, eqA, eqL, kindEq, intEq_eq, eqV_sl hL.spot]) (kO rfl (a_ia (j := u1) rfl rfl (by omega) (by omega) (kZ rfl (a_st rfl rfl (by rw [nsl_set2 (show ¬ u1 = u0 by omega) (z := (k : Int))]; exact (.next (.next (.next (.next (.next (.app (.next .here)))))))) (by rw [Nat.blt_eq, nsl_len]; omega) rfl (i_nil (block_n (then_n (rI (kO rfl (a_add rfl rfl (by omega) (kM rfl rfl (i_nil (then_n ?_)))))))))))))))))))))))))))))))))
  have hst := nl_step hx (by omega)
  exact ⟨rfl, _, _, _, (show ls.length - (k + 1) < ls.length - k by omega), (lc 1 rfl (lc 3 rfl (lc 18 rfl (lc 19 rfl (lc 20 rfl Less.nil))))), (.q (.cons _ (.q (.cons _ (.cons _ (.r (.q (.q (.q (.q .slnil)))))))))), ⟨k + 1, (u1 :: (u0 :: O.erase u0).erase u1), updB (updB B u0 b8) u1 b10, rfl, (by rw [hst]; exact nobj_two hO.1 (by omega)), rfl, by omega, (by rw [hst]; exact (hO.put (by simp)).put2 (by omega) (by simp)), (fun v => nl_len hnl v)⟩⟩
 ·refine i_nil (rQ (r_cond_f rfl (r_exit (then_e (then_e (block_hit (then_n (rS (kM rfl rfl (kM rfl rfl (i_nil (r_ret ?_))))))))))))
  have hkN : k = ls.length := by omega
  subst hkN
  exact end1A rfl (.r (.q (.q (.q (.cons _ .slnil))))) ⟨_, _, _, O, B, rfl, rfl, hO⟩
end
end Ev
end Go.Proofs.Ytoeklhdklcpllaa
namespace Go.Proofs.Ytoeklhdklcpllaa
open Go Go.RowKit
namespace Ev
def xs (x : Nat -> Int) (N : Nat) : List Int := (List.range N).map x
theorem xs_len {x : Nat -> Int} {N : Nat} : (xs x N).length = N := by simp [xs]
theorem xs_get {x : Nat -> Int} {N k : Nat} (h : k < N) : (xs x N).getD k 0 = x k := by
 unfold xs
 rw [List.getD_eq_getElem?_getD, List.getElem?_map, List.getElem?_range h]; rfl
def updX {α : Type} (x : Nat -> α) (i : Nat) (v : α) : Nat -> α := fun j => if j = i then v else x j
theorem xs_set {x : Nat -> Int} {N k : Nat} {v : Int} : (xs x N).set k v = xs (updX x k v) N := by
 unfold xs
 refine List.ext_getElem? (fun j => ?_)
 rw [List.getElem?_set, List.getElem?_map, List.getElem?_map]
 by_cases hj : k = j
 ·subst hj
  rw [if_pos rfl]
  by_cases hk : k < N
  ·rw [if_pos (by simpa using hk), List.getElem?_range hk]; simp [updX]
  ·rw [if_neg (by simpa using hk), List.getElem?_eq_none (by simp; omega)]; rfl
 ·rw [if_neg hj]
  by_cases hk : j < N
  ·rw [List.getElem?_range hk]; simp [updX]; intro h; omega
  ·rw [List.getElem?_eq_none (by simp; omega)]; rfl
def cell (p : Nat × Nat × Nat × Int) : List Value := [.int .i64 p.1, .bool false, .int .i64 p.2.1, .int .i64 p.2.2.1, .int .i64 p.2.2.2]
def cvs (c : Nat -> Nat × Nat × Nat × Int) : Nat -> List Value
 | 0 => []
 | n + 1 => cvs c n ++ cell (c n)
theorem cvs_len {c : Nat -> Nat × Nat × Nat × Int} : ∀ {N : Nat}, (cvs c N).length = N * 5
 | 0 => rfl
 | N + 1 => by
  show (cvs c N ++ cell (c N)).length = _
  rw [List.length_append, cvs_len]
  show N * 5 + 5 = _
  omega
theorem cvs_get {c : Nat -> Nat × Nat × Nat × Int} {j t : Nat} (ht : t < 5) : ∀ {N : Nat}, j < N -> (cvs c N)[j * 5 + t]? = (cell (c j))[t]?
 | N + 1, h => by
  show (cvs c N ++ cell (c N))[j * 5 + t]? = _
  by_cases q : j = N
  ·subst q
   rw [List.getElem?_append_right (by rw [cvs_len]; omega), cvs_len]
   congr 1; omega
  ·rw [List.getElem?_append_left (by rw [cvs_len]; omega)]
   exact cvs_get ht (by omega)
theorem cvs_zero {N : Nat} : repeatN [.int .i64 0, .bool false, .int .i64 0, .int .i64 0, .int .i64 0] N = cvs (fun _ => (0, 0, 0, 0)) N := by
 have key : ∀ n, repeatN [.int .i64 0, .bool false, .int .i64 0, .int .i64 0, .int .i64 0] n ++ cell (0, 0, 0, 0) = cell (0, 0, 0, 0) ++ repeatN [.int .i64 0, .bool false, .int .i64 0, .int .i64 0, .int .i64 0] n := by
  intro n
  induction n with
  | zero => rfl
  | succ n ih =>
   show (cell (0, 0, 0, 0) ++ repeatN _ n) ++ cell (0, 0, 0, 0) = cell (0, 0, 0, 0) ++ (cell (0, 0, 0, 0) ++ repeatN _ n)
   rw [List.append_assoc, ih]
 induction N with
 | zero => rfl
 | succ n ih =>
  show cell (0, 0, 0, 0) ++ repeatN _ n = cvs _ n ++ cell (0, 0, 0, 0)
  rw [<- key, ih]
theorem overL_some : ∀ {r l : List Value} {i : Nat}, i + r.length <= l.length -> ∃ l', overL l i r = some l'
 | [], l, _, _ => ⟨l, rfl⟩
 | v :: r, l, i, h => by
  have h1 : i < l.length := by simp at h; omega
  obtain ⟨l', e⟩ := overL_some (r := r) (l := l.set i v) (i := i + 1) (by rw [List.length_set]; simp at h; omega)
  refine ⟨l', ?_⟩
  unfold overL
  rw [List.getElem?_eq_getElem h1]
  exact e
theorem cam_over {c : Nat -> Nat × Nat × Nat × Int} {N j : Nat} {p : Nat × Nat × Nat × Int} (h : j < N) : overL (cvs c N) (0 + j * 5) (cell p) = some (cvs (updX c j p) N) := by
 rw [Nat.zero_add]
 have hl : j * 5 + (cell p).length <= (cvs c N).length := by rw [cvs_len]; show j * 5 + 5 <= _; omega
 obtain ⟨l', e⟩ := overL_some hl
 rw [e]
 obtain ⟨e2, _⟩ := overL_eq e (by omega)
 subst e2
 congr 1
 refine List.ext_getElem? (fun q => ?_)
 rw [over_get hl]
 by_cases hq : q < N * 5
 ·have e3 : q = q / 5 * 5 + q % 5 := by omega
  have h5 : q % 5 < 5 := by omega
  have hn : q / 5 < N := by omega
  by_cases hj : q / 5 = j
  ·rw [if_pos (by show _ /\ q < j * 5 + 5; omega)]
   rw [show (cvs (updX c j p) N)[q]? = (cell p)[q % 5]? from by rw [e3, cvs_get h5 hn]; simp [updX, hj, h5]]
   congr 1; omega
  ·rw [if_neg (by show ¬ (_ /\ q < j * 5 + 5); omega)]
   rw [show (cvs (updX c j p) N)[q]? = (cvs c N)[q]? from by rw [e3, cvs_get h5 hn, cvs_get h5 hn]; simp [updX, hj]]
 ·rw [if_neg (by show ¬ (_ /\ q < j * 5 + 5); omega), List.getElem?_eq_none (by rw [cvs_len]; omega), List.getElem?_eq_none (by rw [cvs_len]; omega)]
section
variable {P : Program} {C : Nat -> (CF -> Bool) -> Bool} {X : FuncId -> List Value -> St -> (Value -> St -> Bool) -> Bool} {s0 : St} {n nt : Nat} {env : List (Nat × Value)} {A : List Ob} {R : Value -> List Ob -> Prop} {B : Nat -> Nat} {L : Nat -> List Int} {v : Nat}
theorem a_lenN {x : Ev.X} (hx : xv env x = some (nsv B L v)) (h : R (.int .i64 ((L v).length : Int)) A) : OpA P C X s0 n nt (.len x) env A R := by
 by_cases q : L v = []
 ·unfold nsv at hx
  rw [if_pos q] at hx
  rw [q] at h
  exact a_len0 hx h
 ·unfold nsv at hx
  rw [if_neg q] at hx
  exact a_len hx h
theorem a_iaN {x i : Ev.X} {j size : Nat} {ik : IntKind} {z : Int} (hx : xv env x = some (nsv B L v)) (hi : xv env i = some (.int ik z)) (hz : z = (j : Int)) (hj : j < (L v).length) (h : R (.pointer (some ⟨B v, 0 + j * size, none⟩)) A) : OpA P C X s0 n nt (.ia x i size) env A R := by
 have q : ¬ L v = [] := fun e => by rw [e] at hj; exact absurd hj (Nat.not_lt_zero _)
 unfold nsv at hx
 rw [if_neg q] at hx
 exact a_ia hx hi hz hj h
theorem a_mks5 {e bytes m c : Nat} {z : List Value} {size : Nat} {x y : Ev.X} (hx : xv env x = some (.int .i64 (m : Int))) (hy : xv env y = some (.int .i64 (c : Int))) (hc : m <= c) (hb1 : c <= 1048576) (hb2 : bytes * c <= 1073741824) (hs2 : c * size = (repeatN z c).length)
 (h : ∀ b, R (.slice (some ⟨b, 0, none⟩) m c) (.row b e false (repeatN z c) :: A)) : OpA P C X s0 n nt (.mks e size bytes z x y) env A R := .mk fun s hs T hT k hk => by
 refine valE_of hT (k := fun l => valK T y (fun c => mksK s e size bytes z l c k)) hx (valE_of hT (k := fun c => mksK s e size bytes z _ c k) hy ?_)
 show ifB true (ifB true (ifB (Nat.ble m c) (ifB (Nat.ble c 1048576) (ifB (Nat.ble (Nat.mul bytes c) 1073741824) (addsK .leaf 0 (repeatN z c) _) false) false) false) false) false = true
 rw [show Nat.ble m c = true from by rw [Nat.ble_eq]; exact hc, show Nat.ble c 1048576 = true from by rw [Nat.ble_eq]; exact hb1, show Nat.ble (Nat.mul bytes c) 1073741824 = true from by rw [Nat.ble_eq]; exact hb2]
 show addsK .leaf 0 (repeatN z c) _ = true
 refine rowOfList (fun t ht hg => nOf_of ?_)
 rw [forceN_eq]
 exact newRow_of (l := repeatN z c) hs2 hs.wf ht hg (fun s' xx _ ho => hk _ _ ⟨_, hs.new xx ho, h s.n⟩)
end
theorem own_nobj {B : Nat -> Nat} {L : Nat -> List Int} {R : List Ob} {v : Nat} : ∀ {O : List Nat}, v ∈ O -> Own (nobj B L O ++ R) (B v) 3 true (ints (L v))
 | w :: O, h => by
  by_cases q : v = w
  ·subst q; exact .here
  ·refine .next (own_nobj ?_)
   rcases List.mem_cons.1 h with h | h
   ·exact absurd h q
   ·exact h
theorem nl_mem {ls : List (List Int)} {v : Nat} : ∀ {k q : Nat}, q < (nl ls k v).length -> ∃ i : Nat, (nl ls k v).getD q 0 = (i : Int) /\ i < k /\ nam (ls.getD i []) v
 | 0, q, h => absurd h (Nat.not_lt_zero q)
 | k + 1, q, h => by
  have e : nl ls (k + 1) v = nl ls k v ++ (if nam (ls.getD k []) v then [(k : Int)] else []) := rfl
  rw [e] at h ⊢
  rw [List.length_append] at h
  rw [List.getD_eq_getElem?_getD]
  by_cases h1 : q < (nl ls k v).length
  ·obtain ⟨i, h2, h3, h4⟩ := nl_mem h1
   rw [List.getElem?_append_left h1, <- List.getD_eq_getElem?_getD]
   exact ⟨i, h2, by omega, h4⟩
  ·rw [List.getElem?_append_right (by omega)]
   by_cases h5 : nam (ls.getD k []) v
   ·rw [if_pos h5] at h ⊢
    rw [show q - (nl ls k v).length = 0 by simp at h; omega]
    exact ⟨k, rfl, by omega, h5⟩
   ·rw [if_neg h5] at h
    simp at h; omega
structure Fs where
 x : Nat -> Int
 c : Nat -> Nat × Nat × Nat × Int
 l : Int
def rlx (ls : List (List Int)) (s : Fs) (f i : Nat) : Fs :=
 if (ls.getD i []).getD 1 0 = (f : Int) then s
 else if s.x f + (ls.getD i []).getD 2 0 < s.x ((ls.getD i []).getD 1 0).toNat then
  ⟨updX s.x ((ls.getD i []).getD 1 0).toNat (s.x f + (ls.getD i []).getD 2 0), updX s.c ((ls.getD i []).getD 1 0).toNat (i, f, ((ls.getD i []).getD 1 0).toNat, (ls.getD i []).getD 2 0), (ls.getD i []).getD 1 0⟩
 else s
def rwS (ls : List (List Int)) (s : Fs) (f : Nat) : Nat -> Fs
 | 0 => s
 | q + 1 => rlx ls (rwS ls s f q) f ((nl ls ls.length f).getD q 0).toNat
def lwS (ls : List (List Int)) (s : Fs) : Nat -> Fs
 | 0 => s
 | v + 1 => if (lwS ls s v).x v = 1000000000 then lwS ls s v else rwS ls (lwS ls s v) v (nl ls ls.length v).length
theorem rws_back {ls : List (List Int)} {s : Fs} {f q i u0 : Nat} {y2 y3 : Int} (hi : (nl ls ls.length f).getD q 0 = (i : Int)) (hx : ls[i]? = some [(u0 : Int), (f : Int), y2, y3]) : rwS ls s f (q + 1) = rwS ls s f q := by
 have e : ls.getD i [] = [(u0 : Int), (f : Int), y2, y3] := by rw [List.getD_eq_getElem?_getD, hx]; rfl
 show rlx ls _ f _ = _
 rw [hi, Int.toNat_natCast]
 unfold rlx
 rw [e]
 exact if_pos rfl
theorem rws_less {ls : List (List Int)} {s : Fs} {f q i u0 u1 : Nat} {y2 y3 : Int} (hi : (nl ls ls.length f).getD q 0 = (i : Int)) (hx : ls[i]? = some [(u0 : Int), (u1 : Int), y2, y3]) (hne : ¬ (u1 : Int) = (f : Int)) (hlt : (rwS ls s f q).x f + y2 < (rwS ls s f q).x u1) : rwS ls s f (q + 1) = ⟨updX (rwS ls s f q).x u1 ((rwS ls s f q).x f + y2), updX (rwS ls s f q).c u1 (i, f, u1, y2), (u1 : Int)⟩ := by
 have e : ls.getD i [] = [(u0 : Int), (u1 : Int), y2, y3] := by rw [List.getD_eq_getElem?_getD, hx]; rfl
 show rlx ls _ f _ = _
 rw [hi, Int.toNat_natCast]
 unfold rlx
 rw [e]
 show (if (u1 : Int) = (f : Int) then _ else if (rwS ls s f q).x f + y2 < (rwS ls s f q).x (u1 : Int).toNat then _ else _) = _
 rw [if_neg hne, Int.toNat_natCast, if_pos hlt]; rfl
theorem rws_more {ls : List (List Int)} {s : Fs} {f q i u0 u1 : Nat} {y2 y3 : Int} (hi : (nl ls ls.length f).getD q 0 = (i : Int)) (hx : ls[i]? = some [(u0 : Int), (u1 : Int), y2, y3]) (hlt : ¬ (rwS ls s f q).x f + y2 < (rwS ls s f q).x u1) : rwS ls s f (q + 1) = rwS ls s f q := by
 have e : ls.getD i [] = [(u0 : Int), (u1 : Int), y2, y3] := by rw [List.getD_eq_getElem?_getD, hx]; rfl
 show rlx ls _ f _ = _
 rw [hi, Int.toNat_natCast]
 unfold rlx
 rw [e]
 show (if (u1 : Int) = (f : Int) then _ else if (rwS ls s f q).x f + y2 < (rwS ls s f q).x (u1 : Int).toNat then _ else _) = _
 rw [Int.toNat_natCast, if_neg hlt]
 split <;> rfl
theorem lws_free {ls : List (List Int)} {s : Fs} {v : Nat} (h : (lwS ls s v).x v = 1000000000) : lwS ls s (v + 1) = lwS ls s v := if_pos h
theorem lws_go {ls : List (List Int)} {s : Fs} {v : Nat} (h : ¬ (lwS ls s v).x v = 1000000000) : lwS ls s (v + 1) = rwS ls (lwS ls s v) v (nl ls ls.length v).length := if_neg h
section
variable {X : FuncId -> List Value -> St -> (Value -> St -> Bool) -> Bool}
end
end Ev
end Go.Proofs.Ytoeklhdklcpllaa
namespace Go.Proofs.Ytoeklhdklcpllaa.Ev
open Go Go.RowKit
section
variable {P : Program} {C : Nat -> (CF -> Bool) -> Bool} {X : FuncId -> List Value -> St -> (Value -> St -> Bool) -> Bool} {nt : Nat} {r : Option Nat} {env : List (Nat × Value)} {D : List Nat} {Q : Out -> List (Nat × Value) -> List Nat -> St -> Prop} {s : St}
theorem run_loopD {b : CC} (I : Nat -> List (Nat × Value) -> List Nat -> St -> Prop) (c K : Nat) (hb : ∀ n, K <= n -> ∀ j e D s, I j e D s -> RunE P C X (n + c) nt r b e D s (thenQ (fun e' D' s' => ∃ j' e2, j' < j /\ Less e' e2 /\ I j' e2 D' s') Q)) :
 ∀ {n j : Nat} {env : List (Nat × Value)} {D : List Nat} {s : St}, K <= n -> I j env D s -> RunE P C X (n + j + c + 1) nt r (.loop b) env D s Q := by
 intro n j
 induction j using Nat.strongRecOn generalizing n with
 | ind j ih =>
  intro env D s hK hI T hT k hk
  show (oracX P C X (n + j + c)).code r b T D s (fun x T D s => onOut x ((oracX P C X (n + j + c)).code r (.loop b) T D s k) (k x T D s) (fun _ => k x T D s) (fun _ => k x T D s)) = true
  refine hb (n + j) (by omega) j env D s hI T hT _ (fun x e T' D' s' hT' hq => ?_)
  cases x with
  | normal =>
   obtain ⟨j', e2, hlt, hl, hI'⟩ := hq
   have e1 : n + j + c = (n + (j - j' - 1)) + j' + c + 1 := by omega
   show (oracX P C X (n + j + c)).code r (.loop b) T' D' s' k = true
   rw [e1]
   exact ih j' hlt (n := n + (j - j' - 1)) (by omega) hI' T' (hT'.less hl) k hk
  | ret => exact hk _ _ T' D' s' hT' hq
  | exit i => exact hk _ _ T' D' s' hT' hq
  | goto i => exact hk _ _ T' D' s' hT' hq
theorem run_loop_inD {b : CC} (I : Nat -> List (Nat × Value) -> List Nat -> St -> Prop) (c K L : Nat) (hb : ∀ n, K <= n -> ∀ j e D s, I j e D s -> RunE P C X (n + c) nt r b e D s (thenQ (fun e' D' s' => ∃ j' e2, j' < j /\ Less e' e2 /\ I j' e2 D' s') Q))
 {n j : Nat} {env2 : List (Nat × Value)} (hn : K + L <= n) (hj : j <= L) (hl : Less env env2) (hI : I j env2 D s) : RunE P C X (n + c + 1) nt r (.loop b) env D s Q := by
 have := run_loopD (P := P) (C := C) (X := X) (nt := nt) (r := r) (Q := Q) I c K hb (n := n - j) (by omega) hI
 rw [show n - j + j + c + 1 = n + c + 1 by omega] at this
 exact this.less hl
end
section
variable {P : Program} {C : Nat -> (CF -> Bool) -> Bool} {X : FuncId -> List Value -> St -> (Value -> St -> Bool) -> Bool} {s0 : St} {n nt : Nat} {r : Option Nat} {env : List (Nat × Value)} {D : List Nat} {A : List Ob} {Q : Out -> List (Nat × Value) -> List Nat -> List Ob -> Prop}
theorem r_loopD {b : CC} (I : Nat -> List (Nat × Value) -> List Nat -> List Ob -> Prop) (c K L : Nat) (hb : ∀ n, K <= n -> ∀ j e D A, I j e D A -> RunA P C X s0 (n + c) nt r b e D A (thenA (fun e' D' A' => ∃ j' e2 A2, j' < j /\ Less e' e2 /\ A2.Sublist A' /\ I j' e2 D' A2) Q))
 {j : Nat} {env2 : List (Nat × Value)} {A2 : List Ob} (hn : K + L <= n) (hj : j <= L) (hl : Less env env2) (ha : A2.Sublist A) (hI : I j env2 D A2) : RunA P C X s0 (n + c + 1) nt r (.loop b) env D A Q := .mk fun s hs => by
 refine run_loop_inD (env2 := env2) (fun j e D s => ∃ A, Hld s0 A s /\ I j e D A) c K L (fun n hK j e D s hI => ?_) hn hj hl ⟨A2, hs.sub ha, hI⟩
 obtain ⟨A1, h1, h2⟩ := hI
 refine ((hb n hK j e D A1 h2).go s h1).mono (fun x e D' s' hq => ?_)
 obtain ⟨A', h3, h4⟩ := hq
 cases x with
 | normal =>
  obtain ⟨j', e2, A2, h6, h7, h8, h9⟩ := h4
  exact ⟨j', e2, h6, h7, A2, h3.sub h8, h9⟩
 | ret => exact ⟨A', h3, h4⟩
 | exit i => exact ⟨A', h3, h4⟩
 | goto i => exact ⟨A', h3, h4⟩
theorem deld_map {R : List Ob} : ∀ {qs : List Nat}, DelD (qs.map Ob.dfr ++ R) qs R
 | [] => .nil
 | q :: qs => .cons .here deld_map
theorem a_copy1 {x y : Ev.X} {b off len cap b' off' n' c' e j : Nat} {op : Bool} {l more : List Value} {A' : List Ob} {R : Value -> List Ob -> Prop} (hx : xv env x = some (.slice (some ⟨b, off, none⟩) len cap)) (hy : xv env y = some (.slice (some ⟨b', off', none⟩) n' c')) (hj : j = if n' <= len then n' else len) (h0 : j ≠ 0) (hm : more.length = j)
 (hr : (∃ e op l, Own A b' e op l /\ segL l off' more.length = some more) ∨ Ats s0 b' off' more) (hu : Upd A b e op l (over l off more) A') (hfit : off + j <= l.length) (h : R (.int .i64 (j : Int)) A') : OpA P C X s0 n nt (.copy 1 x y) env A R := .mk fun s hs T hT k hk => by
 refine valE_of hT (k := fun x => valK T y (fun y => copyK s 1 x y k)) hx (valE_of hT (k := fun y => copyK s 1 _ y k) hy ?_)
 have hne : more ≠ [] := fun q => h0 (by rw [<- hm, q]; rfl)
 have ha : Ats s b' off' more := by
  rcases hr with ⟨e, op, l, h3, h4⟩ | h3
  ·exact (hs.own h3).ats (segL_eq h4).2
  ·exact hs.ats h3
 have key : (fun j => ifB (Nat.beq j 0) (k (.int .i64 (.ofNat 0)) s) (rowK s b (fun m c e op => copyToK (fun h => seeK s b' (fun c' => segK c' off' (Nat.mul j 1) h) (fun g => romSegK g off' (Nat.mul j 1) h)) (fun l =>
  ifB (Nat.ble (Nat.add off (Nat.mul j 1)) m) (putsK c off l (fun c => storeK s b (.cells m c e op) (k (.int .i64 (.ofNat j))))) false)))) j = true := by
  show ifB (Nat.beq j 0) _ (rowK s b _) = true
  rw [show Nat.beq j 0 = false from beqF h0]
  obtain ⟨c, hc, hf, hg⟩ := hs.own hu.own
  show objK s b _ = true
  refine objK_of (k := _) hc ?_
  obtain ⟨f, h5, h6⟩ := ha.see hne
  have done : ifB (Nat.ble (Nat.add off (Nat.mul j 1)) l.length) (putsK c off more (fun c => storeK s b (.cells l.length c e op) (k (.int .i64 (.ofNat j))))) false = true := by
   rw [show Nat.ble (Nat.add off (Nat.mul j 1)) l.length = true from by rw [Nat.ble_eq]; show off + j * 1 <= l.length; omega]
   have hfit2 : off + more.length <= l.length := by omega
   refine putsK_of hf hfit2 (fun c' hc' hg' => storeK_of hs.wf (Full.lt hs.wf hc) (fun s1 hm1 hn1 hd1 => ?_))
   have hol : (over l off more).length = l.length := over_length hfit2
   refine hk _ _ ⟨_, hs.upd hu hm1 ⟨c', by rw [hol]; exact hd1, by rw [hol]; exact hc', fun q => ?_⟩, h⟩
   rw [hg', over_get hfit2]
   by_cases h1 : off <= q /\ q < off + more.length
   ·rw [if_pos h1, if_pos h1]
   ·rw [if_neg h1, if_neg h1, hg]
  have hj1 : more.length = Nat.mul j 1 := by show _ = j * 1; omega
  refine seeK_of h5 (fun c2 hc2 => ?_) ?_
  ·subst hc2; exact segK_of (k := fun l' => ifB (Nat.ble (Nat.add off (Nat.mul j 1)) l.length) (putsK c off l' (fun c => storeK s b (.cells l.length c e op) (k (.int .i64 (.ofNat j))))) false) hj1 (fun q hq => h6 q (by rw [hj1]; exact hq)) done
  ·exact romSegK_of (k := fun l' => ifB (Nat.ble (Nat.add off (Nat.mul j 1)) l.length) (putsK c off l' (fun c => storeK s b (.cells l.length c e op) (k (.int .i64 (.ofNat j))))) false) hj1 (fun q hq => h6 q (by rw [hj1]; exact hq)) done
 show minN n' len (fun j => ifB (Nat.beq j 0) (k (.int .i64 (.ofNat 0)) s) (rowK s b (fun m c e op => copyToK (fun h => seeK s b' (fun c' => segK c' off' (Nat.mul j 1) h) (fun g => romSegK g off' (Nat.mul j 1) h)) (fun l =>
  ifB (Nat.ble (Nat.add off (Nat.mul j 1)) m) (putsK c off l (fun c => storeK s b (.cells m c e op) (k (.int .i64 (.ofNat j))))) false)))) = true
 unfold minN
 by_cases q : n' <= len
 ·rw [show Nat.ble n' len = true from by rw [Nat.ble_eq]; exact q]
  rw [if_pos q] at hj
  subst hj
  exact key
 ·rw [show Nat.ble n' len = false from by
   cases hb : Nat.ble n' len with
   | false => rfl
   | true => rw [Nat.ble_eq] at hb; omega]
  rw [if_neg q] at hj
  subst hj
  exact key
theorem slc_from {row : Nat -> Option (Nat × Nat × Bool)} {e b o len c l : Nat} (h : l <= len) (hl : len <= c) (hlc : l < c) (hc : c < OPEN) : evSlc row e 1 (.slice (some ⟨b, o, none⟩) len c) (some (.int .i64 (l : Int))) none none = some (.slice (some ⟨b, o + l * 1, none⟩) (len - l) (c - l)) := by
 show sel (Nat.ble OPEN c) _ (sel (Nat.ble len c) (sel (Nat.ble l len) (some (Value.slice (some ⟨b, sel (Nat.beq c l) o (o + l * 1), none⟩) (len - l) (c - l))) none) none) = _
 rw [show Nat.ble OPEN c = false from by
  cases hb : Nat.ble OPEN c with
  | false => rfl
  | true => rw [Nat.ble_eq] at hb; omega, show Nat.ble len c = true from by rw [Nat.ble_eq]; exact hl, show Nat.ble l len = true from by rw [Nat.ble_eq]; exact h, show Nat.beq c l = false from beqF (by omega)]
 rfl
theorem a_slcF {e : Nat} {x lo : Ev.X} {b o len c l : Nat} {z : Int} {R : Value -> List Ob -> Prop} (hx : xv env x = some (.slice (some ⟨b, o, none⟩) len c)) (hi' : xv env lo = some (.int .i64 z)) (hz : z = (l : Int)) (hh : l <= len) (hl : len <= c) (hlc : l < c) (hc : c < OPEN) (hR : R (.slice (some ⟨b, o + l * 1, none⟩) (len - l) (c - l)) A) : OpA P C X s0 n nt (.slc e 1 x (some lo) none none) env A R := .mk fun s hs T hT k hk => by
 subst hz
 refine valE_of hT (k := fun x => valOK T (some lo) (fun lo => valOK T none (fun hi => valOK T none (fun mx => slcK s e 1 x lo hi mx (vK s k))))) hx ?_
 refine valE_of hT (k := fun v => slcK s e 1 _ (some v) none none (vK s k)) hi' ?_
 unfold slcK
 rw [slc_from hh hl hlc hc]
 show forceV (Value.slice (some ⟨b, o + l * 1, none⟩) (len - l) (c - l)) (vK s k) = true
 rw [forceV_eq]
 exact hk _ _ ⟨A, hs, hR⟩
end
end Go.Proofs.Ytoeklhdklcpllaa.Ev
namespace Go.Proofs.Ytoeklhdklcpllaa
open Go Go.RowKit
namespace Ev
def itr (c : Nat -> Nat × Nat × Nat × Int) (l : Nat) : Nat -> Nat
 | 0 => l
 | m + 1 => (c (itr c l m)).2.1
theorem itr_lt {c : Nat -> Nat × Nat × Nat × Int} {N l : Nat} (hc : ∀ v, v < N -> (c v).2.1 < N) (hl : l < N) : ∀ m, itr c l m < N
 | 0 => hl
 | m + 1 => hc _ (itr_lt hc hl m)
theorem itr_add {c : Nat -> Nat × Nat × Nat × Int} {l a : Nat} : ∀ b, itr c l (a + b) = itr c (itr c l a) b
 | 0 => rfl
 | b + 1 => by show (c (itr c l (a + b))).2.1 = (c (itr c (itr c l a) b)).2.1; rw [itr_add b]
theorem pigeon : ∀ (N : Nat) (f : Nat -> Nat), (∀ i, i <= N -> f i < N) -> ∃ i j, i < j /\ j <= N /\ f i = f j
 | 0, f, h => absurd (h 0 (Nat.le_refl _)) (Nat.not_lt_zero _)
 | N + 1, f, h => by
  by_cases q : ∃ i, i <= N /\ f i = f (N + 1)
  ·obtain ⟨i, h1, h2⟩ := q
   exact ⟨i, N + 1, by omega, Nat.le_refl _, h2⟩
  ·have hq : ∀ i, i <= N -> f i ≠ f (N + 1) := fun i hi e => q ⟨i, hi, e⟩
   have ha := h (N + 1) (Nat.le_refl _)
   obtain ⟨i, j, h1, h2, h3⟩ := pigeon N (fun i => if f i = N then f (N + 1) else f i) (fun i hi => by
    have h4 := hq i hi
    have h5 := h i (by omega)
    show (if f i = N then f (N + 1) else f i) < N
    split <;> omega)
   refine ⟨i, j, h1, by omega, ?_⟩
   have h4 := hq i (by omega)
   have h5 := hq j (by omega)
   have h6 : (if f i = N then f (N + 1) else f i) = (if f j = N then f (N + 1) else f j) := h3
   split at h6 <;> split at h6 <;> omega
theorem itr_back {c : Nat -> Nat × Nat × Nat × Int} {N l : Nat} (hc : ∀ v, v < N -> (c v).2.1 < N) (hl : l < N) : ∃ p, 1 <= p /\ p <= N /\ itr c (itr c l N) p = itr c l N := by
 obtain ⟨i, j, h1, h2, h3⟩ := pigeon N (itr c l) (fun i _ => itr_lt hc hl i)
 refine ⟨j - i, by omega, by omega, ?_⟩
 have e1 : itr c l N = itr c (itr c l i) (N - i) := by rw [<- itr_add]; congr 1; omega
 have e2 : itr c (itr c l N) (j - i) = itr c (itr c l j) (N - i) := by
  rw [<- itr_add, <- itr_add]; congr 1; omega
 rw [e2, <- h3, <- e1]
theorem cvs_from {c : Nat -> Nat × Nat × Nat × Int} {N j : Nat} (h : j < N) : (cvs c N)[0 + j * 5 + 2]? = some (.int .i64 ((c j).2.1 : Int)) := by
 rw [Nat.zero_add, cvs_get (by decide) h]; rfl
theorem cvs_lim {c : Nat -> Nat × Nat × Nat × Int} {N j : Nat} (h : j < N) : (cvs c N)[0 + j * 5 + 0]? = some (.int .i64 ((c j).1 : Int)) := by
 rw [Nat.zero_add, cvs_get (by decide) h]; rfl
theorem over_ints {w : List Int} {k : Nat} {z : Int} (h : k < w.length) : over (ints w) (k * 1) [.int .i64 z] = ints (w.set k z) := by
 rw [Nat.mul_one]
 have e : ints (w.set k z) = (ints w).set k (.int .i64 z) := by simp [ints, List.map_set]
 rw [e, List.set_eq_take_append_cons_drop, if_pos (by rw [ints_len]; exact h)]
 unfold over
 simp
def Mvd (l w : List Int) (d : Int) (k : Nat) : Prop := w.length = l.length /\ ∀ i, i < k -> w.getD i 0 = l.getD i 0 + d
theorem Mvd.step {l w : List Int} {d : Int} {k : Nat} (h : Mvd l w d k) (hk : k < l.length) : Mvd l (w.set k (l.getD k 0 + d)) d (k + 1) := by
 refine ⟨by rw [List.length_set]; exact h.1, fun i hi => ?_⟩
 by_cases q : k = i
 ·subst q
  rw [List.getD_eq_getElem?_getD, List.getElem?_set, if_pos rfl, if_pos (by rw [h.1]; exact hk)]; rfl
 ·rw [getD_set_ne q]; exact h.2 i (by omega)
def st0 (s : Fs) : Fs := ⟨s.x, s.c, -1⟩
def stl (ls : List (List Int)) (N : Nat) : Nat -> Fs
 | 0 => ⟨fun _ => 0, fun _ => (0, 0, 0, 0), -1⟩
 | r + 1 => lwS ls (st0 (stl ls N r)) N
section
variable {X : FuncId -> List Value -> St -> (Value -> St -> Bool) -> Bool}
theorem moved_s (n : Nat) (a : Option Addr) (cap : Nat) (l : List Int) (d : Int) (s : St) (hs : Wf s) (hn : 281474976710656 <= n) (hl : IntsE s a l) (hd : -1000000000000000 <= d /\ d <= 1000000000000000) (hb : ∀ i, i < l.length -> -1000000000000000 <= l.getD i 0 /\ l.getD i 0 <= 1000000000000000) (h64 : l.length <= 100000) : Spec Try.prog (tabK tabw) X (n + 400) 72 [.slice a l.length cap, .int .i64 d] s (fun v A => ∃ b w, v = .slice (some ⟨b, 0, none⟩) l.length l.length /\ A = [.row b 3 false (ints w)] /\ Mvd l w d l.length) := by
 refine enter bw72_at rfl hs ?_
 unfold bw72
 have hlen := hl.len
 refine rS (kM rfl rfl (i_nil (rS (kM rfl rfl (kO rfl (a_lenx rfl hl.spot (kO rfl (a_mksI (m := 0) (c := l.length) rfl rfl (by omega) (by omega) (by omega) (fun b1 => (kM rfl rfl (i_nil (rQ (rS (kM rfl rfl (kO rfl (a_lenx rfl hl.spot (kM rfl rfl (i_nil (r_block (r_loop (fun j e A => ∃ (k : Nat) (w : List Int), e = [(1, .int .i64 d), (5, .slice (some ⟨b1, 0, none⟩) k l.length), (11, .slice a l.length cap), (12, .int .i64 (l.length : Int)), (13, .int .i64 (k : Int))] /\ A = (.row b1 3 false (ints w) :: []) /\ j = l.length - k /\ k <= l.length /\ Mvd l w d k) 200 0 281474976710656 ?_ (j := _) (env2 := _) (A2 := _) ?_ ?_ ?_ ?_ ⟨0, List.replicate l.length 0, rfl, rfl, rfl, Nat.zero_le _, ⟨by simp, fun i hi => absurd hi (Nat.not_lt_zero i)⟩⟩))))))))))))))))))))
 rotate_left
 ·omega
 ·omega
 ·exact (lc 1 rfl (lc 5 rfl (lc 11 rfl (lc 12 rfl (lc 13 rfl Less.nil)))))
 ·exact (.q .slnil)
 rintro n hn j _ _ ⟨k, w, rfl, rfl, rfl, hk, hw⟩
 have hwl := hw.1
 refine rS (kO rfl (a_lss rfl rfl (fun h2 => ?_) (fun h2 => ?_)))
 ·refine i_nil (rQ (r_cond_t rfl (r_skip (then_n (rQ (r_block (rS (kO rfl (a_iaI (j := k) hl rfl rfl (by omega) (by first | rfl | omega) (by omega) (fun _ _ a3 => ?_))))))))))
  have hbk := hb k (by omega)
  refine kO rfl (a_ldr rfl (hl.at a3 (by omega)) (kM rfl rfl (i_nil (rI (kM rfl rfl (kM rfl rfl (kM rfl rfl (kO rfl (a_add rfl rfl (by omega) (kO rfl (a_lit rfl rfl rfl (fun b4 => (kO rfl (a_appc rfl rfl (Src.own .here rfl (by simp)) (.next .here) (by rw [ints_len]; omega) (by omega) (by show _ < 18446744073709551616; omega) (by omega) (by omega) (kM rfl rfl (i_nil (block_n (then_n (rI (kO rfl (a_add rfl rfl (by omega) (kM rfl rfl (i_nil (then_n ?_))))))))))))))))))))))))
  exact ⟨rfl, _, _, _, (show l.length - (k + 1) < l.length - k by omega), (lc 1 rfl (lc 5 rfl (lc 11 rfl (lc 12 rfl (lc 13 rfl Less.nil))))), (.cons _ (.q .slnil)), ⟨k + 1, _, rfl, (by show [Ob.row _ _ _ (over (ints w) (k * 1) [.int .i64 _])] = _; rw [over_ints (by omega)]), rfl, by omega, (hw.step (by omega))⟩⟩
 ·refine i_nil (rQ (r_cond_f rfl (r_exit (then_e (then_e (block_hit (then_n (rS (kM rfl rfl (kM rfl rfl (i_nil (r_ret ?_))))))))))))
  have hkl : k = l.length := by omega
  subst hkl
  exact end1A rfl (.q .slnil) ⟨_, w, rfl, rfl, hw⟩
end
end Ev
end Go.Proofs.Ytoeklhdklcpllaa
namespace Go.Proofs.Ytoeklhdklcpllaa
open Go Go.RowKit
namespace Ev
def FT (op : Bool) (cp t : Nat) : Prop := (op = true /\ cp = OPEN) ∨ (op = false /\ cp = 1 /\ t = 0)
theorem tight_of {op : Bool} {cp t : Nat} (h : FT op cp t) : Tight op (t + 1) cp := by
 rcases h with h | ⟨h1, h2, rfl⟩
 ·exact .inl h
 ·exact .inr ⟨h1, h2, by decide⟩
theorem xs_zero {N : Nat} {ls : List (List Int)} : List.replicate N 0 = xs (stl ls N 0).x N := by
 refine List.ext_getElem? (fun j => ?_)
 unfold xs
 rw [List.getElem?_replicate, List.getElem?_map]
 by_cases h : j < N
 ·rw [if_pos h, List.getElem?_range h]; rfl
 ·rw [if_neg h, List.getElem?_eq_none (by simp; omega)]; rfl
theorem rep_get {n i : Nat} : (List.replicate n (0 : Int)).getD i 0 = 0 := by
 rw [List.getD_eq_getElem?_getD, List.getElem?_replicate]
 split <;> rfl
theorem rep5 {N : Nat} : N * 5 = (repeatN [.int .i64 0, .bool false, .int .i64 0, .int .i64 0, .int .i64 0] N).length := by rw [cvs_zero, cvs_len]
theorem nam_of {ls : List (List Int)} {i v : Nat} {y0 y1 y2 y3 : Int} (h : nam (ls.getD i []) v) (hx : ls[i]? = some [y0, y1, y2, y3]) : y0 = (v : Int) ∨ y1 = (v : Int) := by
 rw [List.getD_eq_getElem?_getD, hx] at h; exact h
def cyl (c : Nat -> Nat × Nat × Nat × Int) (a : Nat) : Nat -> List Int
 | 0 => [((c a).1 : Int)]
 | m + 1 => cyl c a m ++ [((c (itr c a (m + 1))).1 : Int)]
theorem cyl_len {c : Nat -> Nat × Nat × Nat × Int} {a : Nat} : ∀ {m : Nat}, (cyl c a m).length = m + 1
 | 0 => rfl
 | m + 1 => by
  show (cyl c a m ++ _).length = _
  rw [List.length_append, cyl_len]; rfl
def Rv (l w : List Int) (m i : Nat) : Prop := w.length = m + 1 /\ ∀ t, t <= m -> w.getD t 0 = if t < i ∨ m < t + i then l.getD (m - t) 0 else l.getD t 0
theorem Rv.zero {l : List Int} {m : Nat} (h : l.length = m + 1) : Rv l l m 0 := ⟨h, fun t ht => by rw [if_neg (by omega)]⟩
theorem getD_set {l : List Int} {i j : Nat} {v : Int} (h : i < l.length) : (l.set i v).getD j 0 = if i = j then v else l.getD j 0 := by
 by_cases q : i = j
 ·subst q
  rw [if_pos rfl, List.getD_eq_getElem?_getD, List.getElem?_set, if_pos rfl, if_pos h]; rfl
 ·rw [if_neg q, getD_set_ne q]
theorem Rv.step {l w : List Int} {m i : Nat} (h : Rv l w m i) (hi : i < m - i) : Rv l ((w.set i (w.getD (m - i) 0)).set (m - i) (w.getD i 0)) m (i + 1) := by
 obtain ⟨h1, h2⟩ := h
 refine ⟨by rw [List.length_set, List.length_set]; exact h1, fun t ht => ?_⟩
 rw [getD_set (by rw [List.length_set]; omega), getD_set (by omega)]
 have e1 := h2 i (by omega)
 have e2 := h2 (m - i) (by omega)
 have e3 := h2 t ht
 rw [if_neg (by omega)] at e1 e2
 by_cases q1 : m - i = t
 ·rw [if_pos q1, if_pos (by omega), e1]; congr 1; omega
 ·rw [if_neg q1]
  by_cases q2 : i = t
  ·subst q2
   rw [if_pos rfl, if_pos (by omega), e2]
  ·rw [if_neg q2, e3]
   by_cases q3 : t < i ∨ m < t + i
   ·rw [if_pos q3, if_pos (by omega)]
   ·rw [if_neg q3, if_neg (by omega)]
theorem snoc1 {w : List Int} {z : Int} : ints (w ++ [z]) = ints w ++ [.int .i64 z] := by simp [ints]
theorem nl_le {ls : List (List Int)} : ∀ (k v : Nat), (nl ls k v).length <= k
 | 0, _ => Nat.le_refl _
 | k + 1, v => by
  have := nl_le (ls := ls) k v
  show (nl ls k v ++ _).length <= _
  rw [List.length_append]
  split <;> simp <;> omega
structure SB (ls : List (List Int)) (N : Nat) : Prop where
 bd : ∀ r v q a, r < N -> v < N -> q <= (nl ls ls.length v).length -> a < N -> -100000000000000 <= (rwS ls (lwS ls (st0 (stl ls N r)) v) v q).x a /\ (rwS ls (lwS ls (st0 (stl ls N r)) v) v q).x a <= 100000000000000
 xb : ∀ r a, r <= N -> a < N -> -100000000000000 <= (stl ls N r).x a /\ (stl ls N r).x a <= 100000000000000
 par : ∀ a, a < N -> ((stl ls N N).c a).2.1 < N
 last : ∀ r, r < N -> (stl ls N (r + 1)).l = -1 ∨ ∃ u : Nat, u < N /\ (stl ls N (r + 1)).l = (u : Int)
section
variable {X : FuncId -> List Value -> St -> (Value -> St -> Bool) -> Bool}
theorem moved_n (n : Nat) (a : Option Addr) (cap nw : Nat) (l : List Int) (d : Int) (s : St) (hs : Wf s) (hn : 281474976710656 <= n) (hw : nw = l.length) (hl : IntsE s a l) (hd : -1000000000000000 <= d /\ d <= 1000000000000000) (hb : ∀ i, i < l.length -> -1000000000000000 <= l.getD i 0 /\ l.getD i 0 <= 1000000000000000) (h64 : l.length <= 100000) : Spec Try.prog (tabK tabw) X (n + 400) 72 [.slice a nw cap, .int .i64 d] s (fun v A => ∃ b w, v = .slice (some ⟨b, 0, none⟩) nw nw /\ A = [.row b 3 false (ints w)] /\ Mvd l w d l.length) := by
 subst hw
 exact moved_s n a cap l d s hs hn hl hd hb h64
end
end Ev
end Go.Proofs.Ytoeklhdklcpllaa
namespace Go.Proofs.Ytoeklhdklcpllaa
open Go Go.RowKit
namespace Ev
def Uns (ls : List (List Int)) (N : Nat) : Prop := ∀ r, r < N -> ¬ (stl ls N (r + 1)).l = -1
section
variable {X : FuncId -> List Value -> St -> (Value -> St -> Bool) -> Bool}
end
end Ev
end Go.Proofs.Ytoeklhdklcpllaa
namespace Go.Proofs.Ytoeklhdklcpllaa
open Go Go.RowKit
namespace Ev
theorem lm_row {m : Int} {ls : List (List Int)} {k : Nat} (h : lmB m ls = true) (hk : k < ls.length) : ∃ (u0 u1 : Nat) (y2 y3 : Int), ls[k]? = some [(u0 : Int), (u1 : Int), y2, y3] /\ ((u0 : Int) <= m /\ (u1 : Int) <= m /\ ¬ u0 = u1 /\ -20000 <= y2 /\ y2 <= 20000) := by
 have key : ∀ (ls : List (List Int)) (k : Nat), lmB m ls = true -> k < ls.length -> ∃ y0 y1 y2 y3, ls[k]? = some [y0, y1, y2, y3] := by
  intro ls
  induction ls with
  | nil => intro k _ hk; exact absurd hk (Nat.not_lt_zero k)
  | cons r ls ih =>
   intro k h hk
   unfold lmB at h
   split at h
   ·rename_i h2; cases h2
   ·rename_i h2
    cases h2
    rw [Bool.and_eq_true] at h
    cases k with
    | zero => exact ⟨_, _, _, _, rfl⟩
    | succ k => exact ih k h.2 (by simpa using hk)
   ·cases h
 obtain ⟨y0, y1, y2, y3, e⟩ := key ls k h hk
 have hc := lmB_at h e
 obtain ⟨u0, rfl⟩ : ∃ q : Nat, y0 = (q : Int) := ⟨y0.toNat, by omega⟩
 obtain ⟨u1, rfl⟩ : ∃ q : Nat, y1 = (q : Int) := ⟨y1.toNat, by omega⟩
 exact ⟨u0, u1, y2, y3, e, by omega⟩
structure Iv (N : Nat) (b : Int) (s : Fs) : Prop where
 bd : ∀ a, a < N -> -b <= s.x a /\ s.x a <= 0
 par : ∀ a, a < N -> (s.c a).2.1 < N
 last : s.l = -1 ∨ ∃ u : Nat, u < N /\ s.l = (u : Int)
theorem Iv.mono {N : Nat} {b b' : Int} {s : Fs} (h : Iv N b s) (hb : b <= b') : Iv N b' s := ⟨fun a ha => by have := h.bd a ha; omega, h.par, h.last⟩
theorem Iv.rlx {ls : List (List Int)} {M f i : Nat} {b : Int} {s : Fs} (hl : lmB (M : Int) ls = true) (hi : i < ls.length) (hf : f < M + 1) (h : Iv (M + 1) b s) : Iv (M + 1) (b + 20000) (rlx ls s f i) := by
 obtain ⟨u0, u1, y2, y3, e, hc⟩ := lm_row hl hi
 have e2 : ls.getD i [] = [(u0 : Int), (u1 : Int), y2, y3] := by rw [List.getD_eq_getElem?_getD, e]; rfl
 unfold Ev.rlx
 rw [e2]
 show Iv (M + 1) (b + 20000) (if (u1 : Int) = (f : Int) then s else if s.x f + y2 < s.x (u1 : Int).toNat then ⟨updX s.x (u1 : Int).toNat (s.x f + y2), updX s.c (u1 : Int).toNat (i, f, (u1 : Int).toNat, y2), (u1 : Int)⟩ else s)
 rw [Int.toNat_natCast]
 split
 ·exact h.mono (by omega)
 ·split
  ·rename_i h1 h2
   have hb := h.bd f hf
   have hb2 := h.bd u1 (by omega)
   refine ⟨fun a ha => ?_, fun a ha => ?_, .inr ⟨u1, by omega, rfl⟩⟩
   ·show -(b + 20000) <= updX s.x u1 (s.x f + y2) a /\ updX s.x u1 (s.x f + y2) a <= 0
    have := h.bd a ha
    unfold updX
    by_cases q : a = u1
    ·rw [if_pos q]; omega
    ·rw [if_neg q]; omega
   ·show (updX s.c u1 (i, f, u1, y2) a).2.1 < M + 1
    unfold updX
    by_cases q : a = u1
    ·rw [if_pos q]; exact hf
    ·rw [if_neg q]; exact h.par a ha
  ·exact h.mono (by omega)
theorem Iv.rws {ls : List (List Int)} {M f : Nat} {b : Int} {s : Fs} (hl : lmB (M : Int) ls = true) (hf : f < M + 1) (h : Iv (M + 1) b s) : ∀ {q : Nat}, q <= (nl ls ls.length f).length -> Iv (M + 1) (b + 20000 * (q : Int)) (rwS ls s f q)
 | 0, _ => h.mono (by omega)
 | q + 1, hq => by
  obtain ⟨i, h1, h2, _⟩ := nl_mem (ls := ls) (v := f) (k := ls.length) (q := q) (by omega)
  have := Iv.rlx (i := i) hl h2 hf (Iv.rws hl hf h (q := q) (by omega))
  show Iv (M + 1) _ (Ev.rlx ls (rwS ls s f q) f ((nl ls ls.length f).getD q 0).toNat)
  rw [h1, Int.toNat_natCast]
  exact this.mono (by omega)
theorem Iv.lws {ls : List (List Int)} {M : Nat} {b : Int} {s : Fs} (hl : lmB (M : Int) ls = true) (h4 : ls.length <= 400) (h : Iv (M + 1) b s) : ∀ {v : Nat}, v <= M + 1 -> Iv (M + 1) (b + 8000000 * (v : Int)) (lwS ls s v)
 | 0, _ => h.mono (by omega)
 | v + 1, hv => by
  have ih := Iv.lws hl h4 h (v := v) (by omega)
  show Iv (M + 1) _ (if (lwS ls s v).x v = 1000000000 then lwS ls s v else rwS ls (lwS ls s v) v (nl ls ls.length v).length)
  have hn := nl_le (ls := ls) ls.length v
  split
  ·exact ih.mono (by omega)
  ·exact (Iv.rws hl (by omega) ih (Nat.le_refl _)).mono (by omega)
theorem Iv.st0 {N : Nat} {b : Int} {s : Fs} (h : Iv N b s) : Iv N b (st0 s) := ⟨h.bd, h.par, .inl rfl⟩
theorem Iv.stl {ls : List (List Int)} {M : Nat} (hl : lmB (M : Int) ls = true) (h4 : ls.length <= 400) (hM : M <= 64) : ∀ {r : Nat}, r <= M + 1 -> Iv (M + 1) (520000000 * (r : Int)) (stl ls (M + 1) r)
 | 0, _ => ⟨fun a _ => ⟨by show _ <= (0 : Int); omega, by show (0 : Int) <= 0; omega⟩, fun a _ => Nat.succ_pos M, .inl rfl⟩
 | r + 1, hr => (Iv.lws hl h4 (Iv.st0 (Iv.stl hl h4 hM (r := r) (by omega))) (v := M + 1) (Nat.le_refl _)).mono (by omega)
theorem sb_of {ls : List (List Int)} {M : Nat} (hl : lmB (M : Int) ls = true) (h4 : ls.length <= 400) (hM : M <= 64) : SB ls (M + 1) := by
 refine ⟨fun r v q a hr hv hq ha => ?_, fun r a hr ha => ?_, fun a ha => (Iv.stl hl h4 hM (Nat.le_refl _)).par a ha, fun r hr => (Iv.stl hl h4 hM (r := r + 1) (by omega)).last⟩
 ·have h1 := Iv.st0 (Iv.stl hl h4 hM (r := r) (by omega))
  have h2 := Iv.rws hl hv (Iv.lws hl h4 h1 (v := v) (by omega)) hq
  have h3 := h2.bd a ha
  have hn := nl_le (ls := ls) ls.length v
  omega
 ·have h3 := (Iv.stl hl h4 hM (r := r) (by omega)).bd a ha
  omega
section
variable {X : FuncId -> List Value -> St -> (Value -> St -> Bool) -> Bool}
end
end Ev
end Go.Proofs.Ytoeklhdklcpllaa
namespace Go.Proofs.Ytoeklhdklcpllaa
open Go Go.RowKit
namespace Ev
def la (ls : List (List Int)) (i : Nat) : Nat := ((ls.getD i []).getD 0 0).toNat
def lb (ls : List (List Int)) (i : Nat) : Nat := ((ls.getD i []).getD 1 0).toNat
def lw (ls : List (List Int)) (i : Nat) : Int := (ls.getD i []).getD 2 0
structure Lim (ls : List (List Int)) (M i : Nat) : Prop where
 row : ∃ y3, ls[i]? = some [((la ls i : Nat) : Int), ((lb ls i : Nat) : Int), lw ls i, y3]
 ha : la ls i < M + 1
 hb : lb ls i < M + 1
 ne : la ls i ≠ lb ls i
 eb : (ls.getD i []).getD 1 0 = ((lb ls i : Nat) : Int)
 ea : (ls.getD i []).getD 0 0 = ((la ls i : Nat) : Int)
theorem lim_of {ls : List (List Int)} {M i : Nat} (hl : lmB (M : Int) ls = true) (hi : i < ls.length) : Lim ls M i := by
 obtain ⟨u0, u1, y2, y3, e, hc⟩ := lm_row hl hi
 have e2 : ls.getD i [] = [(u0 : Int), (u1 : Int), y2, y3] := by rw [List.getD_eq_getElem?_getD, e]; rfl
 have h0 : la ls i = u0 := by unfold la; rw [e2]; exact Int.toNat_natCast u0
 have h1 : lb ls i = u1 := by unfold lb; rw [e2]; exact Int.toNat_natCast u1
 have h2 : lw ls i = y2 := by unfold lw; rw [e2]; rfl
 exact ⟨⟨y3, by rw [h0, h1, h2]; exact e⟩, by rw [h0]; omega, by rw [h1]; omega, by rw [h0, h1]; exact hc.2.2.1, by rw [h1, e2]; rfl, by rw [h0, e2]; rfl⟩
theorem rlx_eq {ls : List (List Int)} {M i f : Nat} {s : Fs} (h : Lim ls M i) : rlx ls s f i = if lb ls i = f then s else if s.x f + lw ls i < s.x (lb ls i) then ⟨updX s.x (lb ls i) (s.x f + lw ls i), updX s.c (lb ls i) (i, f, lb ls i, lw ls i), ((lb ls i : Nat) : Int)⟩ else s := by
 unfold rlx
 rw [h.eb]
 by_cases q : lb ls i = f
 ·rw [if_pos q, if_pos (by rw [q])]
 ·rw [if_neg q, if_neg (by omega), Int.toNat_natCast]; rfl
theorem nl_has {ls : List (List Int)} {v i : Nat} (h : nam (ls.getD i []) v) : ∀ {k : Nat}, i < k -> ∃ q, q < (nl ls k v).length /\ (nl ls k v).getD q 0 = (i : Int)
 | k + 1, hk => by
  have e : nl ls (k + 1) v = nl ls k v ++ (if nam (ls.getD k []) v then [(k : Int)] else []) := rfl
  rw [e]
  by_cases q : i = k
  ·subst q
   rw [if_pos h]
   refine ⟨(nl ls i v).length, by simp, ?_⟩
   rw [List.getD_eq_getElem?_getD, List.getElem?_append_right (Nat.le_refl _)]; simp
  ·obtain ⟨p, h1, h2⟩ := nl_has h (k := k) (by omega)
   refine ⟨p, by rw [List.length_append]; omega, ?_⟩
   rw [List.getD_eq_getElem?_getD] at h2 ⊢
   rw [List.getElem?_append_left h1]; exact h2
def Cl (ls : List (List Int)) (x : Nat -> Int) (f : Nat) : Prop := ∀ i, i < ls.length -> la ls i = f -> x (lb ls i) <= x f + lw ls i
def Pq (ls : List (List Int)) (x : Nat -> Int) (t rd : Nat -> Nat) (p : Nat × Nat × Nat × Int) (b : Nat) : Prop := p.1 < ls.length /\ la ls p.1 = p.2.1 /\ lb ls p.1 = b /\ x p.2.1 + lw ls p.1 <= x b /\ (x p.2.1 + lw ls p.1 = x b -> t p.2.1 < t b) /\ rd b <= rd p.2.1 + 1
structure Gh (ls : List (List Int)) (N k : Nat) (s : Fs) (rd t : Nat -> Nat) (T : Nat) : Prop where
 par : ∀ b, b < N -> 0 < rd b -> Pq ls s.x t rd (s.c b) b
 tT : ∀ a, t a <= T
 rk : ∀ a, rd a <= k
 cl : ∀ a, a < N -> rd a + 2 <= k -> Cl ls s.x a
 last : s.l = -1 ∨ ∃ u : Nat, u < N /\ s.l = (u : Int) /\ rd u = k
 zr : ∀ a, a < N -> rd a = 0 -> s.x a = 0
def G2 (ls : List (List Int)) (k v : Nat) (x : Nat -> Int) (rd : Nat -> Nat) : Prop := ∀ a, a < v -> rd a + 1 <= k -> Cl ls x a
def G3 (ls : List (List Int)) (v q : Nat) (x : Nat -> Int) : Prop := ∀ p, p < q -> ∀ i : Nat, (nl ls ls.length v).getD p 0 = (i : Int) -> lb ls i ≠ v -> x (lb ls i) <= x v + lw ls i
theorem updX_ne {α : Type} {x : Nat -> α} {b : Nat} {z : α} {a : Nat} (h : a ≠ b) : updX x b z a = x a := if_neg h
theorem updX_eq {α : Type} {x : Nat -> α} {b : Nat} {z : α} : updX x b z b = z := if_pos rfl
theorem low_cl {ls : List (List Int)} {x : Nat -> Int} {b f : Nat} {z : Int} (h : Cl ls x f) (hz : z <= x b) (hf : f ≠ b) : Cl ls (updX x b z) f := by
 intro i hi ha
 have := h i hi ha
 rw [updX_ne hf]
 by_cases q : lb ls i = b
 ·rw [q, updX_eq]; rw [q] at this; omega
 ·rw [updX_ne q]; exact this
theorem Gh.step {ls : List (List Int)} {M k v q i : Nat} {s : Fs} {rd t : Nat -> Nat} {T : Nat} (hl : lmB (M : Int) ls = true) (hk : 0 < k) (hv : v < M + 1) (hi : (nl ls ls.length v).getD q 0 = (i : Int)) (hil : i < ls.length) (hn : nam (ls.getD i []) v)
 (h : Gh ls (M + 1) k s rd t T) (h2 : G2 ls k v s.x rd) (h3 : G3 ls v q s.x) : ∃ rd' t' T', Gh ls (M + 1) k (rlx ls s v i) rd' t' T' /\ G2 ls k v (rlx ls s v i).x rd' /\ G3 ls v (q + 1) (rlx ls s v i).x := by
 have hL := lim_of hl hil
 rw [rlx_eq hL]
 have same : (lb ls i = v ∨ s.x (lb ls i) <= s.x v + lw ls i) -> G3 ls v (q + 1) s.x := fun hh p hp i' hi' hne => by
  by_cases e : p = q
  ·subst e
   have : i' = i := by rw [hi] at hi'; omega
   subst this
   rcases hh with hh | hh
   ·exact absurd hh hne
   ·exact hh
  ·exact h3 p (by omega) i' hi' hne
 by_cases c1 : lb ls i = v
 ·rw [if_pos c1]; exact ⟨rd, t, T, h, h2, same (.inl c1)⟩
 ·rw [if_neg c1]
  by_cases c2 : s.x v + lw ls i < s.x (lb ls i)
  ·rw [if_pos c2]
   have hav : la ls i = v := by
    rcases hn with hn | hn
    ·rw [hL.ea] at hn; omega
    ·rw [hL.eb] at hn; omega
   have hrv : k <= rd v + 1 := by
    rcases Nat.lt_or_ge (rd v + 1) k with e | e
    ·have := h.cl v hv (by omega) i hil hav; omega
    ·exact e
   have hb := hL.hb
   have hle : s.x v + lw ls i <= s.x (lb ls i) := by omega
   refine ⟨updX rd (lb ls i) k, updX t (lb ls i) (T + 1), T + 1, ⟨fun b hb' hr => ?_, fun a => ?_, fun a => ?_, fun a ha hr => ?_, .inr ⟨lb ls i, hb, rfl, updX_eq⟩, fun a ha hr => ?_⟩, fun a ha hr => ?_, fun p hp i' hi' hne => ?_⟩
   ·show Pq ls (updX s.x (lb ls i) (s.x v + lw ls i)) (updX t (lb ls i) (T + 1)) (updX rd (lb ls i) k) (updX s.c (lb ls i) (i, v, lb ls i, lw ls i) b) b
    by_cases e : b = lb ls i
    ·subst e
     rw [updX_eq (x := s.c)]
     show i < ls.length /\ la ls i = v /\ lb ls i = lb ls i /\ updX s.x (lb ls i) (s.x v + lw ls i) v + lw ls i <= updX s.x (lb ls i) (s.x v + lw ls i) (lb ls i) /\ (updX s.x (lb ls i) (s.x v + lw ls i) v + lw ls i = updX s.x (lb ls i) (s.x v + lw ls i) (lb ls i) -> updX t (lb ls i) (T + 1) v < updX t (lb ls i) (T + 1) (lb ls i)) /\ updX rd (lb ls i) k (lb ls i) <= updX rd (lb ls i) k v + 1
     rw [updX_ne (x := s.x) (fun e => c1 e.symm), updX_eq (x := s.x), updX_ne (x := t) (fun e => c1 e.symm), updX_eq (x := t), updX_eq (x := rd), updX_ne (x := rd) (fun e => c1 e.symm)]
     exact ⟨hil, hav, rfl, Int.le_refl _, fun _ => by have := h.tT v; omega, hrv⟩
    ·rw [updX_ne (x := rd) e] at hr
     obtain ⟨p1, p2, p3, p4, p5, p6⟩ := h.par b hb' hr
     rw [updX_ne (x := s.c) e]
     unfold Pq
     rw [updX_ne (x := s.x) e, updX_ne (x := t) e, updX_ne (x := rd) e]
     by_cases e2 : (s.c b).2.1 = lb ls i
     ·refine ⟨p1, p2, p3, ?_⟩
      rw [e2] at p4 p5 p6 ⊢
      rw [updX_eq, updX_eq, updX_eq]
      have := h.rk b
      exact ⟨by omega, fun q => by omega, by omega⟩
     ·rw [updX_ne (x := s.x) e2, updX_ne (x := t) e2, updX_ne (x := rd) e2]
      exact ⟨p1, p2, p3, p4, p5, p6⟩
   ·have := h.tT a
    by_cases e : a = lb ls i
    ·rw [e, updX_eq]; exact Nat.le_refl _
    ·rw [updX_ne e]; omega
   ·have := h.rk a
    by_cases e : a = lb ls i
    ·rw [e, updX_eq]; exact Nat.le_refl _
    ·rw [updX_ne e]; exact this
   ·by_cases e : a = lb ls i
    ·rw [e, updX_eq] at hr; omega
    ·rw [updX_ne e] at hr
     exact low_cl (h.cl a ha hr) hle e
   ·show updX s.x (lb ls i) (s.x v + lw ls i) a = 0
    by_cases e : a = lb ls i
    ·rw [e, updX_eq] at hr; omega
    ·rw [updX_ne e] at hr ⊢
     exact h.zr a ha hr
   ·by_cases e : a = lb ls i
    ·rw [e, updX_eq] at hr; omega
    ·rw [updX_ne e] at hr
     exact low_cl (h2 a ha hr) hle e
   ·show updX s.x (lb ls i) (s.x v + lw ls i) (lb ls i') <= updX s.x (lb ls i) (s.x v + lw ls i) v + lw ls i'
    rw [updX_ne (fun e => c1 e.symm)]
    by_cases e : p = q
    ·subst e
     have : i' = i := by rw [hi] at hi'; omega
     subst this
     rw [updX_eq]; exact Int.le_refl _
    ·have h4 := h3 p (by omega) i' hi' hne
     by_cases e2 : lb ls i' = lb ls i
     ·rw [e2, updX_eq]; rw [e2] at h4; omega
     ·rw [updX_ne e2]; exact h4
  ·rw [if_neg c2]
   exact ⟨rd, t, T, h, h2, same (.inr (by omega))⟩
section
variable {X : FuncId -> List Value -> St -> (Value -> St -> Bool) -> Bool}
end
end Ev
end Go.Proofs.Ytoeklhdklcpllaa
namespace Go.Proofs.Ytoeklhdklcpllaa
open Go Go.RowKit
namespace Ev
theorem Gh.rws {ls : List (List Int)} {M k v : Nat} {s : Fs} (hl : lmB (M : Int) ls = true) (hk : 0 < k) (hv : v < M + 1) (h : ∃ rd t T, Gh ls (M + 1) k s rd t T /\ G2 ls k v s.x rd) : ∀ {q : Nat}, q <= (nl ls ls.length v).length -> ∃ rd t T, Gh ls (M + 1) k (rwS ls s v q) rd t T /\ G2 ls k v (rwS ls s v q).x rd /\ G3 ls v q (rwS ls s v q).x
 | 0, _ => by
  obtain ⟨rd, t, T, h1, h2⟩ := h
  exact ⟨rd, t, T, h1, h2, fun p hp => absurd hp (Nat.not_lt_zero p)⟩
 | q + 1, hq => by
  obtain ⟨rd, t, T, h1, h2, h3⟩ := Gh.rws hl hk hv h (q := q) (by omega)
  obtain ⟨i, hi, hil, hn⟩ := nl_mem (ls := ls) (v := v) (k := ls.length) (q := q) (by omega)
  have := Gh.step hl hk hv hi hil hn h1 h2 h3
  have e : rwS ls s v (q + 1) = rlx ls (rwS ls s v q) v i := by
   show rlx ls (rwS ls s v q) v ((nl ls ls.length v).getD q 0).toNat = _
   rw [hi, Int.toNat_natCast]
  rw [e]
  exact this
theorem cl_of {ls : List (List Int)} {M v : Nat} {x : Nat -> Int} (hl : lmB (M : Int) ls = true) (h : G3 ls v (nl ls ls.length v).length x) : Cl ls x v := by
 intro i hi ha
 have hL := lim_of hl hi
 obtain ⟨q, h1, h2⟩ := nl_has (ls := ls) (v := v) (i := i) (.inl (by rw [hL.ea, ha])) (k := ls.length) hi
 exact h q h1 i h2 (fun e => hL.ne (by rw [ha, e]))
theorem Gh.lws {ls : List (List Int)} {M k : Nat} {s : Fs} (hl : lmB (M : Int) ls = true) (hk : 0 < k) (hF : ∀ v, v < M + 1 -> ¬ (lwS ls s v).x v = 1000000000) (h : ∃ rd t T, Gh ls (M + 1) k s rd t T) : ∀ {v : Nat}, v <= M + 1 -> ∃ rd t T, Gh ls (M + 1) k (lwS ls s v) rd t T /\ G2 ls k v (lwS ls s v).x rd
 | 0, _ => by
  obtain ⟨rd, t, T, h1⟩ := h
  exact ⟨rd, t, T, h1, fun a ha => absurd ha (Nat.not_lt_zero a)⟩
 | v + 1, hv => by
  have ih := Gh.lws hl hk hF h (v := v) (by omega)
  rw [lws_go (hF v (by omega))]
  obtain ⟨rd, t, T, h1, h2, h3⟩ := Gh.rws hl hk (show v < M + 1 by omega) ih (Nat.le_refl _)
  refine ⟨rd, t, T, h1, fun a ha hr => ?_⟩
  by_cases e : a = v
  ·rw [e]; exact cl_of hl h3
  ·exact h2 a (by omega) hr
theorem Gh.stl {ls : List (List Int)} {M : Nat} (hl : lmB (M : Int) ls = true) (h4 : ls.length <= 400) (hM : M <= 64) : ∀ {r : Nat}, r <= M + 1 -> ∃ rd t T, Gh ls (M + 1) r (stl ls (M + 1) r) rd t T /\ G2 ls r (M + 1) (stl ls (M + 1) r).x rd
 | 0, _ => ⟨fun _ => 0, fun _ => 0, 0, ⟨fun b _ hr => absurd hr (Nat.lt_irrefl 0), fun _ => Nat.le_refl _, fun _ => Nat.le_refl _, fun a _ hr => by omega, .inl rfl, fun a _ _ => rfl⟩, fun a _ hr => by omega⟩
 | r + 1, hr => by
  obtain ⟨rd, t, T, h1, h2⟩ := Gh.stl hl h4 hM (r := r) (by omega)
  have hI := Iv.st0 (Iv.stl hl h4 hM (r := r) (by omega))
  refine Gh.lws (s := Ev.st0 (Ev.stl ls (M + 1) r)) hl (Nat.succ_pos r) (fun v hv => ?_) ⟨rd, t, T, h1.par, h1.tT, fun a => by have := h1.rk a; omega, fun a ha hr => h2 a ha (by omega), .inl rfl, h1.zr⟩ (Nat.le_refl _)
  have := (Iv.lws hl h4 hI (v := v) (by omega)).bd v hv
  omega
section
variable {X : FuncId -> List Value -> St -> (Value -> St -> Bool) -> Bool}
end
end Ev
end Go.Proofs.Ytoeklhdklcpllaa
namespace Go.Proofs.Ytoeklhdklcpllaa
open Go Go.RowKit
namespace Ev
theorem rlx_l {ls : List (List Int)} {M v i : Nat} {s : Fs} (h : Lim ls M i) (hl : (rlx ls s v i).l = -1) : rlx ls s v i = s /\ (lb ls i = v ∨ s.x (lb ls i) <= s.x v + lw ls i) := by
 rw [rlx_eq h] at hl ⊢
 by_cases c1 : lb ls i = v
 ·rw [if_pos c1]; exact ⟨rfl, .inl c1⟩
 ·rw [if_neg c1] at hl ⊢
  by_cases c2 : s.x v + lw ls i < s.x (lb ls i)
  ·rw [if_pos c2] at hl
   have : ((lb ls i : Nat) : Int) = -1 := hl
   omega
  ·rw [if_neg c2]; exact ⟨rfl, .inr (by omega)⟩
theorem rws_l {ls : List (List Int)} {M v : Nat} {s : Fs} (hl : lmB (M : Int) ls = true) : ∀ {q : Nat}, q <= (nl ls ls.length v).length -> (rwS ls s v q).l = -1 -> rwS ls s v q = s /\ G3 ls v q s.x
 | 0, _, _ => ⟨rfl, fun p hp => absurd hp (Nat.not_lt_zero p)⟩
 | q + 1, hq, h => by
  obtain ⟨i, hi, hil, hn⟩ := nl_mem (ls := ls) (v := v) (k := ls.length) (q := q) (by omega)
  have e : rwS ls s v (q + 1) = rlx ls (rwS ls s v q) v i := by
   show rlx ls (rwS ls s v q) v ((nl ls ls.length v).getD q 0).toNat = _
   rw [hi, Int.toNat_natCast]
  rw [e] at h ⊢
  obtain ⟨e2, h2⟩ := rlx_l (lim_of hl hil) h
  rw [e2] at h ⊢
  obtain ⟨e3, h3⟩ := rws_l hl (q := q) (by omega) h
  rw [e3] at h2 ⊢
  refine ⟨rfl, fun p hp i' hi' hne => ?_⟩
  by_cases c : p = q
  ·subst c
   have : i' = i := by rw [hi] at hi'; omega
   subst this
   rcases h2 with h2 | h2
   ·exact absurd h2 hne
   ·exact h2
  ·exact h3 p (by omega) i' hi' hne
theorem lws_l {ls : List (List Int)} {M : Nat} {s : Fs} (hl : lmB (M : Int) ls = true) : ∀ {v : Nat}, (lwS ls s v).l = -1 -> lwS ls s v = s /\ ∀ a, a < v -> ¬ s.x a = 1000000000 -> Cl ls s.x a
 | 0, _ => ⟨rfl, fun a ha => absurd ha (Nat.not_lt_zero a)⟩
 | v + 1, h => by
  by_cases c : (lwS ls s v).x v = 1000000000
  ·rw [lws_free c] at h ⊢
   obtain ⟨e, h2⟩ := lws_l hl h
   rw [e] at c
   refine ⟨e, fun a ha hf => ?_⟩
   by_cases q : a = v
   ·rw [q] at hf; exact absurd c hf
   ·exact h2 a (by omega) hf
  ·rw [lws_go c] at h ⊢
   obtain ⟨e1, h1⟩ := rws_l hl (Nat.le_refl _) h
   rw [e1] at h ⊢
   obtain ⟨e, h2⟩ := lws_l hl h
   rw [e] at h1 ⊢
   refine ⟨rfl, fun a ha hf => ?_⟩
   by_cases q : a = v
   ·rw [q]; exact cl_of hl h1
   ·exact h2 a (by omega) hf
section
variable {X : FuncId -> List Value -> St -> (Value -> St -> Bool) -> Bool}
end
end Ev
end Go.Proofs.Ytoeklhdklcpllaa
namespace Go.Proofs.Ytoeklhdklcpllaa
open Go Go.RowKit
namespace Ev
section
variable {X : FuncId -> List Value -> St -> (Value -> St -> Bool) -> Bool}
end
end Ev
end Go.Proofs.Ytoeklhdklcpllaa
namespace Go.Proofs.Ytoeklhdklcpllaa
open Go Go.RowKit
namespace Ev
section
variable {X : FuncId -> List Value -> St -> (Value -> St -> Bool) -> Bool}
end
end Ev
end Go.Proofs.Ytoeklhdklcpllaa
namespace Go.Proofs.Ytoeklhdklcpllaa
open Go Go.RowKit
namespace Ev
def fcn (x : Nat -> Int) : Nat -> Int
 | 0 => 0
 | k + 1 => fcn x k + (if x k = 1000000000 then 0 else 1)
theorem cnt_far {x : Nat -> Int} {b : Nat} {z : Int} : ∀ {N : Nat}, N <= b -> fcn (updX x b z) N = fcn x N
 | 0, _ => rfl
 | N + 1, h => by
  show fcn (updX x b z) N + (if updX x b z N = 1000000000 then 0 else 1) = fcn x N + (if x N = 1000000000 then 0 else 1)
  rw [cnt_far (N := N) (by omega), updX_ne (show N ≠ b by omega)]
theorem cnt_upd {x : Nat -> Int} {b : Nat} {z : Int} (hz : ¬ z = 1000000000) : ∀ {N : Nat}, b < N -> fcn (updX x b z) N = fcn x N + (if x b = 1000000000 then 1 else 0)
 | N + 1, h => by
  show fcn (updX x b z) N + (if updX x b z N = 1000000000 then 0 else 1) = fcn x N + (if x N = 1000000000 then 0 else 1) + _
  by_cases q : b = N
  ·subst q
   rw [cnt_far (Nat.le_refl _), updX_eq, if_neg hz]
   split <;> omega
  ·rw [cnt_upd hz (N := N) (by omega), updX_ne (show N ≠ b by omega)]; omega
def tot (x : Nat -> Int) : Nat -> Int
 | 0 => 0
 | k + 1 => tot x k + x k
theorem tot_far {x : Nat -> Int} {b : Nat} {z : Int} : ∀ {N : Nat}, N <= b -> tot (updX x b z) N = tot x N
 | 0, _ => rfl
 | N + 1, h => by
  show tot (updX x b z) N + updX x b z N = tot x N + x N
  rw [tot_far (N := N) (by omega), updX_ne (show N ≠ b by omega)]
theorem tot_upd {x : Nat -> Int} {b : Nat} {z : Int} : ∀ {N : Nat}, b < N -> tot (updX x b z) N = tot x N + (z - x b)
 | N + 1, h => by
  show tot (updX x b z) N + updX x b z N = tot x N + x N + _
  by_cases q : b = N
  ·subst q
   rw [tot_far (Nat.le_refl _), updX_eq]; omega
  ·rw [tot_upd (N := N) (by omega), updX_ne (show N ≠ b by omega)]; omega
section
variable {X : FuncId -> List Value -> St -> (Value -> St -> Bool) -> Bool}
end
end Ev
end Go.Proofs.Ytoeklhdklcpllaa
namespace Go.Proofs.Ytoeklhdklcpllaa
open Go Go.RowKit
namespace Ev
section
variable {X : FuncId -> List Value -> St -> (Value -> St -> Bool) -> Bool}
end
end Ev
end Go.Proofs.Ytoeklhdklcpllaa
namespace Go.Proofs.Ytoeklhdklcpllaa
open Go Go.RowKit
namespace Ev
set_option maxRecDepth 100000
def rr (z : Int) (m k : Nat) : List Int := List.replicate k z ++ List.replicate (m - k) 0
section
variable {X : FuncId -> List Value -> St -> (Value -> St -> Bool) -> Bool}
end
end Ev
end Go.Proofs.Ytoeklhdklcpllaa
namespace Go.Proofs.Ytoeklhdklcpllaa
open Go Go.RowKit
namespace Ev
section
variable {X : FuncId -> List Value -> St -> (Value -> St -> Bool) -> Bool}
end
end Ev
end Go.Proofs.Ytoeklhdklcpllaa
namespace Go.Proofs.Ytoeklhdklcpllaa
open Go Go.RowKit
namespace Ev
theorem tmodP_bd {x m : Int} (h : 0 < m) : -m < x.tmod m /\ x.tmod m < m := by
 have h1 := Int.natAbs_tmod x m
 have h2 := Nat.mod_lt x.natAbs (show 0 < m.natAbs by omega)
 omega
section
variable {X : FuncId -> List Value -> St -> (Value -> St -> Bool) -> Bool}
end
end Ev
end Go.Proofs.Ytoeklhdklcpllaa
namespace Go.Proofs.Ytoeklhdklcpllaa
open Go Go.RowKit
namespace Ev
section
variable {X : FuncId -> List Value -> St -> (Value -> St -> Bool) -> Bool}
end
end Ev
end Go.Proofs.Ytoeklhdklcpllaa
namespace Go.Proofs.Ytoeklhdklcpllaa
open Go Go.RowKit
namespace Ev
theorem tot_congr {f g : Nat -> Int} : ∀ {N : Nat}, (∀ i, i < N -> f i = g i) -> tot f N = tot g N
 | 0, _ => rfl
 | N + 1, h => by show tot f N + f N = tot g N + g N; rw [tot_congr (N := N) (fun i hi => h i (by omega)), h N (by omega)]
theorem tot_le {f g : Nat -> Int} : ∀ {N : Nat}, (∀ i, i < N -> f i <= g i) -> tot f N <= tot g N
 | 0, _ => Int.le_refl _
 | N + 1, h => by
  have h1 := tot_le (N := N) (fun i hi => h i (by omega))
  have h2 := h N (by omega)
  show tot f N + f N <= tot g N + g N
  omega
theorem tot_add {f g : Nat -> Int} : ∀ {N : Nat}, tot (fun i => f i + g i) N = tot f N + tot g N
 | 0 => rfl
 | N + 1 => by
  have h1 := tot_add (f := f) (g := g) (N := N)
  show tot (fun i => f i + g i) N + (f N + g N) = tot f N + f N + (tot g N + g N)
  omega
theorem tot_sub {f g : Nat -> Int} : ∀ {N : Nat}, tot (fun i => f i - g i) N = tot f N - tot g N
 | 0 => rfl
 | N + 1 => by
  have h1 := tot_sub (f := f) (g := g) (N := N)
  show tot (fun i => f i - g i) N + (f N - g N) = tot f N + f N - (tot g N + g N)
  omega
theorem tot_nil {f : Nat -> Int} : ∀ {N : Nat}, (∀ i, i < N -> f i = 0) -> tot f N = 0
 | 0, _ => rfl
 | N + 1, h => by show tot f N + f N = 0; rw [tot_nil (N := N) (fun i hi => h i (by omega)), h N (by omega)]; rfl
theorem tot_nn {f : Nat -> Int} {N : Nat} (h : ∀ i, i < N -> 0 <= f i) : 0 <= tot f N := by
 have := tot_le (f := fun _ => 0) (g := f) h
 rwa [tot_nil (fun _ _ => rfl)] at this
theorem tot_one {c : Nat -> Int} {a : Nat} : ∀ {N : Nat}, a < N -> tot (fun v => if a = v then c v else 0) N = c a
 | N + 1, h => by
  show tot (fun v => if a = v then c v else 0) N + (if a = N then c N else 0) = c a
  by_cases q : a = N
  ·subst q
   rw [if_pos rfl, tot_nil (fun i hi => if_neg (by omega))]; omega
  ·rw [if_neg q, tot_one (N := N) (by omega)]; omega
theorem tot_mem {f : Nat -> Int} : ∀ {N : Nat}, (∀ i, i < N -> 0 <= f i) -> ∀ i, i < N -> f i <= tot f N
 | N + 1, h, i, hi => by
  have h1 := tot_nn (f := f) (N := N) (fun i hi => h i (by omega))
  show f i <= tot f N + f N
  by_cases q : i = N
  ·subst q; omega
  ·have := tot_mem (N := N) (fun i hi => h i (by omega)) i (by omega)
   have := h N (by omega)
   omega
def net (ts : List (List Int)) (t : Nat -> Int) : Nat -> Nat -> Int
 | 0, _ => 0
 | k + 1, v => net ts t k v + ((if lb ts k = v then t k else 0) - (if la ts k = v then t k else 0))
theorem dot_net {ts : List (List Int)} {t x : Nat -> Int} {N : Nat} : ∀ {k : Nat}, (∀ i, i < k -> la ts i < N /\ lb ts i < N) -> tot (fun v => x v * net ts t k v) N = tot (fun i => t i * (x (lb ts i) - x (la ts i))) k
 | 0, _ => tot_nil (fun i _ => Int.mul_zero _)
 | k + 1, h => by
  have ih := dot_net (t := t) (x := x) (k := k) (fun i hi => h i (by omega))
  obtain ⟨ha, hb⟩ := h k (by omega)
  have e : ∀ v, v < N -> x v * net ts t (k + 1) v = x v * net ts t k v + ((if lb ts k = v then x v * t k else 0) - (if la ts k = v then x v * t k else 0)) := fun v _ => by
   show x v * (net ts t k v + ((if lb ts k = v then t k else 0) - (if la ts k = v then t k else 0))) = _
   rw [Int.mul_add, Int.mul_sub]
   congr 1
   congr 1
   ·split <;> simp
   ·split <;> simp
  rw [tot_congr e, tot_add, tot_sub, ih, tot_one (c := fun v => x v * t k) hb, tot_one (c := fun v => x v * t k) ha]
  show _ = tot _ k + t k * (x (lb ts k) - x (la ts k))
  rw [Int.mul_sub, Int.mul_comm (t k), Int.mul_comm (t k)]
def ind (U : Nat -> Bool) (v : Nat) : Int := if U v = true then 1 else 0
theorem cut_le {ts : List (List Int)} {t : Nat -> Int} {U : Nat -> Bool} {N K : Nat} (hN : ∀ i, i < K -> la ts i < N /\ lb ts i < N) (hn : ∀ i, i < K -> 0 <= t i) (hU : ∀ i, i < K -> U (lb ts i) = true -> U (la ts i) = true) : tot (fun v => ind U v * net ts t K v) N <= 0 := by
 rw [dot_net hN]
 have := tot_le (f := fun i => t i * (ind U (lb ts i) - ind U (la ts i))) (g := fun _ => 0) (N := K) (fun i hi => by
  have h1 := hn i hi
  have h2 := hU i hi
  show t i * (ind U (lb ts i) - ind U (la ts i)) <= 0
  unfold ind
  by_cases q : U (lb ts i) = true
  ·rw [if_pos q, if_pos (h2 q)]; simp
  ·rw [if_neg q]
   split
   ·rw [show t i * (0 - 1) = - t i by omega]; omega
   ·simp)
 rwa [tot_nil (fun _ _ => rfl)] at this
def Lg (M : Nat) (ts : List (List Int)) : Prop := ∀ i, i < ts.length -> la ts i < M + 1 /\ lb ts i < M + 1 /\ la ts i ≠ lb ts i /\ -20000 <= lw ts i /\ lw ts i <= 1280001 /\ ∃ y3, ts[i]? = some [((la ts i : Nat) : Int), ((lb ts i : Nat) : Int), lw ts i, y3]
theorem lw_bd' {ls : List (List Int)} {M i : Nat} (hl : lmB (M : Int) ls = true) (hi : i < ls.length) : -20000 <= lw ls i /\ lw ls i <= 20000 := by
 obtain ⟨u0, u1, y2, y3, e, hc⟩ := lm_row hl hi
 have e3 : ls.getD i [] = [(u0 : Int), (u1 : Int), y2, y3] := by rw [List.getD_eq_getElem?_getD, e]; rfl
 have e2 : lw ls i = y2 := by unfold lw; rw [e3]; rfl
 omega
theorem lg_of {M : Nat} {ls : List (List Int)} (hl : lmB (M : Int) ls = true) : Lg M ls := fun i hi => by
 have hL := lim_of hl hi
 obtain ⟨u0, u1, y2, y3, e, hc⟩ := lm_row hl hi
 have e3 : ls.getD i [] = [(u0 : Int), (u1 : Int), y2, y3] := by rw [List.getD_eq_getElem?_getD, e]; rfl
 have e2 : lw ls i = y2 := by unfold lw; rw [e3]; rfl
 exact ⟨hL.ha, hL.hb, hL.ne, by omega, by omega, hL.row⟩
def tollL : Nat -> List (List Int)
 | 0 => []
 | m + 1 => tollL m ++ [[0, ((m + 1 : Nat) : Int), 1280001, 0], [((m + 1 : Nat) : Int), 0, 1280001, 0]]
theorem toll_len : ∀ {m : Nat}, (tollL m).length = 2 * m
 | 0 => rfl
 | m + 1 => by
  show (tollL m ++ _).length = _
  rw [List.length_append, toll_len]; show 2 * m + 2 = _; omega
theorem toll_up {i : Nat} : ∀ {m : Nat}, i < m -> (tollL m)[2 * i]? = some [0, ((i + 1 : Nat) : Int), 1280001, 0] /\ (tollL m)[2 * i + 1]? = some [((i + 1 : Nat) : Int), 0, 1280001, 0]
 | m + 1, h => by
  show (tollL m ++ _)[2 * i]? = _ /\ (tollL m ++ _)[2 * i + 1]? = _
  by_cases q : i = m
  ·subst q
   rw [List.getElem?_append_right (by rw [toll_len]; omega), List.getElem?_append_right (by rw [toll_len]; omega), toll_len, Nat.sub_self, show 2 * i + 1 - 2 * i = 1 by omega]
   exact ⟨rfl, rfl⟩
  ·rw [List.getElem?_append_left (by rw [toll_len]; omega), List.getElem?_append_left (by rw [toll_len]; omega)]
   exact toll_up (by omega)
theorem fld {ts : List (List Int)} {i a b : Nat} {w y : Int} (h : ts[i]? = some [(a : Int), (b : Int), w, y]) : la ts i = a /\ lb ts i = b /\ lw ts i = w := by
 have e : ts.getD i [] = [(a : Int), (b : Int), w, y] := by rw [List.getD_eq_getElem?_getD, h]; rfl
 refine ⟨?_, ?_, ?_⟩
 ·unfold la; rw [e]; exact Int.toNat_natCast a
 ·unfold lb; rw [e]; exact Int.toNat_natCast b
 ·unfold lw; rw [e]; rfl
theorem app_fld {ls us : List (List Int)} {i : Nat} (h : i < ls.length) : la (ls ++ us) i = la ls i /\ lb (ls ++ us) i = lb ls i /\ lw (ls ++ us) i = lw ls i := by
 have e : (ls ++ us).getD i [] = ls.getD i [] := by rw [List.getD_eq_getElem?_getD, List.getElem?_append_left h, <- List.getD_eq_getElem?_getD]
 unfold la lb lw
 rw [e]; exact ⟨rfl, rfl, rfl⟩
theorem tl_up {ls : List (List Int)} {m i : Nat} (h : i < m) : (ls ++ tollL m)[ls.length + 2 * i]? = some [((0 : Nat) : Int), ((i + 1 : Nat) : Int), 1280001, 0] /\ (ls ++ tollL m)[ls.length + 2 * i + 1]? = some [((i + 1 : Nat) : Int), ((0 : Nat) : Int), 1280001, 0] := by
 rw [List.getElem?_append_right (by omega), List.getElem?_append_right (by omega), show ls.length + 2 * i - ls.length = 2 * i by omega, show ls.length + 2 * i + 1 - ls.length = 2 * i + 1 by omega]
 exact toll_up h
theorem lg_tl {M : Nat} {ls : List (List Int)} (hl : lmB (M : Int) ls = true) : Lg M (ls ++ tollL M) := fun i hi => by
 by_cases q : i < ls.length
 ·obtain ⟨e1, e2, e3⟩ := app_fld (us := tollL M) q
  obtain ⟨h1, h2, h3, h4, h5, y3, h6⟩ := lg_of hl i q
  rw [e1, e2, e3, List.getElem?_append_left q]
  exact ⟨h1, h2, h3, h4, h5, y3, h6⟩
 ·rw [List.length_append, toll_len] at hi
  obtain ⟨j, hj, hd⟩ : ∃ j, j < M /\ (i = ls.length + 2 * j ∨ i = ls.length + 2 * j + 1) := ⟨(i - ls.length) / 2, by omega, by omega⟩
  obtain ⟨t1, t2⟩ := tl_up (ls := ls) hj
  rcases hd with rfl | rfl
  ·obtain ⟨e1, e2, e3⟩ := fld t1
   rw [e1, e2, e3]
   exact ⟨by omega, by omega, by omega, by omega, by omega, 0, t1⟩
  ·obtain ⟨e1, e2, e3⟩ := fld t2
   rw [e1, e2, e3]
   exact ⟨by omega, by omega, by omega, by omega, by omega, 0, t2⟩
structure Opt (ls : List (List Int)) (N : Nat) (w t p : Nat -> Int) : Prop where
 nn : ∀ i, i < ls.length -> 0 <= t i
 nt : ∀ v, v < N -> net ls t ls.length v = w v
 st : ∀ i, i < ls.length -> p (lb ls i) <= p (la ls i) + lw ls i
 ti : ∀ i, i < ls.length -> 0 < t i -> p (lb ls i) = p (la ls i) + lw ls i
def Opn (ls : List (List Int)) (N : Nat) (w : Nat -> Int) : Prop := ∃ U : Nat -> Bool, (∀ i, i < ls.length -> U (lb ls i) = true -> U (la ls i) = true) /\ 0 < tot (fun v => ind U v * w v) N
theorem Opn.not {ls : List (List Int)} {N : Nat} {w t : Nat -> Int} (h : Opn ls N w) (hN : ∀ i, i < ls.length -> la ls i < N /\ lb ls i < N) (hn : ∀ i, i < ls.length -> 0 <= t i) (ht : ∀ v, v < N -> net ls t ls.length v = w v) : False := by
 obtain ⟨U, h1, h2⟩ := h
 have h3 := cut_le hN hn h1
 rw [tot_congr (fun v hv => by rw [ht v hv])] at h3
 omega
structure Ld (ts : List (List Int)) (N : Nat) (w due t p : Nat -> Int) : Prop where
 nn : ∀ i, i < ts.length -> 0 <= t i
 nt : ∀ v, v < N -> net ts t ts.length v = w v - due v
 st : ∀ i, i < ts.length -> p (lb ts i) <= p (la ts i) + lw ts i
 ti : ∀ i, i < ts.length -> 0 < t i -> p (lb ts i) = p (la ts i) + lw ts i
theorem net_app {ls us : List (List Int)} {t : Nat -> Int} {v : Nat} : ∀ {k : Nat}, k <= ls.length -> net (ls ++ us) t k v = net ls t k v
 | 0, _ => rfl
 | k + 1, h => by
  obtain ⟨e1, e2, _⟩ := app_fld (us := us) (show k < ls.length by omega)
  show net (ls ++ us) t k v + _ = net ls t k v + _
  rw [net_app (by omega), e1, e2]
theorem net_stop {ts : List (List Int)} {t : Nat -> Int} {v K0 : Nat} : ∀ {K : Nat}, K0 <= K -> (∀ i, K0 <= i -> i < K -> t i = 0) -> net ts t K v = net ts t K0 v
 | 0, h, _ => by rw [show K0 = 0 by omega]
 | K + 1, h, ht => by
  by_cases q : K0 = K + 1
  ·rw [q]
  ·show net ts t K v + _ = _
   rw [net_stop (K := K) (by omega) (fun i hi hk => ht i hi (by omega)), ht K (by omega) (by omega)]
   simp
theorem ld_opt {ls : List (List Int)} {M : Nat} {w due t p : Nat -> Int} (h : Ld (ls ++ tollL M) (M + 1) w due t p) (hd : ∀ v, v < M + 1 -> due v = 0) (ht : ∀ i, ls.length <= i -> i < (ls ++ tollL M).length -> t i = 0) : Opt ls (M + 1) w t p := by
 have hlen : ls.length <= (ls ++ tollL M).length := by rw [List.length_append]; omega
 refine ⟨fun i hi => h.nn i (by omega), fun v hv => ?_, fun i hi => ?_, fun i hi hp => ?_⟩
 ·have := h.nt v hv
  rw [net_stop hlen ht, net_app (Nat.le_refl _), hd v hv] at this
  omega
 ·have := h.st i (by omega)
  obtain ⟨e1, e2, e3⟩ := app_fld (us := tollL M) hi
  rwa [e1, e2, e3] at this
 ·have := h.ti i (by omega) hp
  obtain ⟨e1, e2, e3⟩ := app_fld (us := tollL M) hi
  rwa [e1, e2, e3] at this
theorem gap {M : Nat} {p : Nat -> Int} {a b : Nat} (hM : M <= 64) (ha : a < M + 1) (hb : b < M + 1) (h : p b = p a + 1280001) : ∃ c : Int, p a <= c /\ c + 20000 < p b /\ ∀ u, u < M + 1 -> p u <= c ∨ c + 20000 < p u := by
 refine Classical.byContradiction (fun q => ?_)
 have hall : ∀ j : Nat, j < 64 -> ∃ u, u < M + 1 /\ p a + 20000 * (j : Int) < p u /\ p u <= p a + 20000 * (j : Int) + 20000 := fun j hj => by
  refine Classical.byContradiction (fun r => q ⟨p a + 20000 * (j : Int), by omega, by omega, fun u hu => ?_⟩)
  by_cases c1 : p u <= p a + 20000 * (j : Int)
  ·exact .inl c1
  ·exact .inr (by refine Classical.byContradiction (fun c2 => r ⟨u, hu, by omega, by omega⟩))
 have hf : ∀ j : Nat, ∃ u, u < M + 1 /\ (j < 64 -> p a + 20000 * (j : Int) < p u /\ p u <= p a + 20000 * (j : Int) + 20000) := fun j => by
  by_cases hj : j < 64
  ·obtain ⟨u, h1, h2, h3⟩ := hall j hj
   exact ⟨u, h1, fun _ => ⟨h2, h3⟩⟩
  ·exact ⟨a, ha, fun r => absurd r hj⟩
 have key := fun j => (hf j).choose_spec
 obtain ⟨i, j, h1, h2, h3⟩ := pigeon 65 (fun j => if j = 64 then a else if j = 65 then b else (hf j).choose) (fun i hi => by
  show (if i = 64 then a else if i = 65 then b else (hf i).choose) < 65
  have := (key i).1
  split
  ·omega
  ·split <;> omega)
 have h3' : (if i = 64 then a else if i = 65 then b else (hf i).choose) = (if j = 64 then a else if j = 65 then b else (hf j).choose) := h3
 by_cases i64 : i = 64
 ·rw [if_pos i64, if_neg (by omega), if_pos (by omega)] at h3'
  rw [<- h3'] at h; omega
 ·have ki := (key i).2 (by omega)
  rw [if_neg i64, if_neg (by omega)] at h3'
  by_cases j64 : j = 64
  ·rw [if_pos j64] at h3'; rw [h3'] at ki; omega
  ·rw [if_neg j64] at h3'
   by_cases j65 : j = 65
   ·rw [if_pos j65] at h3'; rw [h3'] at ki; omega
   ·rw [if_neg j65] at h3'
    have kj := (key j).2 (by omega)
    rw [<- h3'] at kj
    omega
theorem ld_opn {ls : List (List Int)} {M : Nat} {w due t p : Nat -> Int} (hl : lmB (M : Int) ls = true) (hM : M <= 64) (h : Ld (ls ++ tollL M) (M + 1) w due t p) (hd : ∀ v, v < M + 1 -> due v = 0) {i : Nat} (hi : ls.length <= i) (hi2 : i < (ls ++ tollL M).length) (ht : 0 < t i) : Opn ls (M + 1) w := by
 have hlen : (ls ++ tollL M).length = ls.length + 2 * M := by rw [List.length_append, toll_len]
 have htl := h.ti i hi2 ht
 have hg := lg_tl hl
 obtain ⟨g1, g2, _⟩ := hg i hi2
 have htw : lw (ls ++ tollL M) i = 1280001 := by
  obtain ⟨j, hj, hd⟩ : ∃ j, j < M /\ (i = ls.length + 2 * j ∨ i = ls.length + 2 * j + 1) := ⟨(i - ls.length) / 2, by omega, by omega⟩
  obtain ⟨t1, t2⟩ := tl_up (ls := ls) hj
  rcases hd with rfl | rfl
  ·exact (fld t1).2.2
  ·exact (fld t2).2.2
 rw [htw] at htl
 obtain ⟨c, c1, c2, c3⟩ := gap hM g1 g2 htl
 refine ⟨fun v => decide (c < p v), fun k hk hU => ?_, ?_⟩
 ·have hU : c < p (lb ls k) := of_decide_eq_true hU
  obtain ⟨e1, e2, e3⟩ := app_fld (us := tollL M) hk
  have h1 := h.st k (by omega)
  rw [e1, e2, e3] at h1
  obtain ⟨k1, k2, _⟩ := lg_of hl k hk
  have h2 := c3 _ k1
  have h3 := c3 _ k2
  have h4 := lw_bd' hl hk
  exact decide_eq_true (by omega)
 ·have e : tot (fun v => ind (fun v => decide (c < p v)) v * w v) (M + 1) = tot (fun k => t k * (ind (fun v => decide (c < p v)) (lb (ls ++ tollL M) k) - ind (fun v => decide (c < p v)) (la (ls ++ tollL M) k))) (ls ++ tollL M).length := by
   rw [<- dot_net (fun k hk => ⟨(hg k hk).1, (hg k hk).2.1⟩)]
   exact tot_congr (fun v hv => by rw [h.nt v hv, hd v hv]; simp)
  rw [e]
  have hnn : ∀ k, k < (ls ++ tollL M).length -> 0 <= t k * (ind (fun v => decide (c < p v)) (lb (ls ++ tollL M) k) - ind (fun v => decide (c < p v)) (la (ls ++ tollL M) k)) := fun k hk => by
   have k0 := h.nn k hk
   by_cases q : t k = 0
   ·rw [q]; simp
   ·have k1 := h.ti k hk (by omega)
    obtain ⟨k2, k3, _, k4, k5, _⟩ := hg k hk
    have h2 := c3 _ k2
    have h3 := c3 _ k3
    unfold ind
    refine Int.mul_nonneg k0 ?_
    by_cases q1 : c < p (la (ls ++ tollL M) k)
    ·have : c < p (lb (ls ++ tollL M) k) := by omega
     rw [if_pos (decide_eq_true q1), if_pos (decide_eq_true this)]; decide
    ·have e1 : (if decide (c < p (la (ls ++ tollL M) k)) = true then (1 : Int) else 0) = 0 := if_neg (by simpa using q1)
     rw [e1]
     split <;> decide
  have hmem := tot_mem hnn i hi2
  have hpos : t i * (ind (fun v => decide (c < p v)) (lb (ls ++ tollL M) i) - ind (fun v => decide (c < p v)) (la (ls ++ tollL M) i)) = t i := by
   unfold ind
   rw [if_pos (decide_eq_true (by omega)), if_neg (by simp; omega)]
   omega
  have hmem' : t i * (ind (fun v => decide (c < p v)) (lb (ls ++ tollL M) i) - ind (fun v => decide (c < p v)) (la (ls ++ tollL M) i)) <= _ := hmem
  rw [hpos] at hmem'
  exact Int.lt_of_lt_of_le ht hmem'
section
variable {X : FuncId -> List Value -> St -> (Value -> St -> Bool) -> Bool}
end
end Ev
end Go.Proofs.Ytoeklhdklcpllaa
