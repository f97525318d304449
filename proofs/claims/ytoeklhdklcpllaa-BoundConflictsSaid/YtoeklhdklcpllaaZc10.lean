import Derived.Test.YtoeklhdklcpllaaZc09
set_option linter.unusedVariables false
set_option linter.unusedSimpArgs false
namespace Go.Proofs.Ytoeklhdklcpllaa
open Go Go.RowKit
namespace Ev
def rowT (T : Nat -> Nat -> Int) (n i : Nat) : List Int := (List.range n).map (T i)
theorem rowT_len {T : Nat -> Nat -> Int} {n i : Nat} : (rowT T n i).length = n := by simp [rowT]
theorem rowT_get {T : Nat -> Nat -> Int} {n i k : Nat} (h : k < n) : (rowT T n i).getD k 0 = T i k := by
 unfold rowT;rw [List.getD_eq_getElem?_getD, List.getElem?_map, List.getElem?_range h]; rfl
def updT (T : Nat -> Nat -> Int) (i k : Nat) (v : Int) : Nat -> Nat -> Int := fun a b => if a = i /\ b = k then v else T a b
def seg (B : Nat -> Nat) (n : Nat) (T : Nat -> Nat -> Int) : Nat -> List Ob
 | 0 => []
 | i + 1 => .row (B i) 3 false (ints (rowT T n i)) :: seg B n T i
theorem seg_congr {B B' : Nat -> Nat} {n : Nat} {T T' : Nat -> Nat -> Int} : ∀ {i : Nat}, (∀ j, j < i -> B j = B' j) -> (∀ j, j < i -> rowT T n j = rowT T' n j) -> seg B n T i = seg B' n T' i
 | 0, _, _ => rfl
 | i + 1, h, k => by
  show _ :: _ = _ :: _;rw [h i (by omega), k i (by omega), seg_congr (fun j hj => h j (by omega)) (fun j hj => k j (by omega))]
theorem own_seg {B : Nat -> Nat} {n : Nat} {T : Nat -> Nat -> Int} {R : List Ob} : ∀ {i j : Nat}, j < i -> Own (seg B n T i ++ R) (B j) 3 false (ints (rowT T n j))
 | i + 1, j, h => by
  by_cases hj : j = i
  ·subst hj; exact .here
  ·exact .next (own_seg (by omega))
def slsT (B : Nat -> Nat) (n i m : Nat) : List Value := (List.range m).map fun j => if j < i then .slice (some ⟨B j, 0, none⟩) n n else .slice none 0 0
theorem sls_len {B : Nat -> Nat} {n i m : Nat} : (slsT B n i m).length = m := by simp [slsT]
theorem sls_get {B : Nat -> Nat} {n i m j : Nat} (hj : j < i) (hm : j < m) : (slsT B n i m)[0 + j * 1]? = some (.slice (some ⟨B j, 0, none⟩) n n) := by
 unfold slsT;rw [Nat.zero_add, Nat.mul_one, List.getElem?_map, List.getElem?_range hm];simp [hj]
theorem sls_zero {B : Nat -> Nat} {n m : Nat} : List.replicate m (.slice none 0 0) = slsT B n 0 m := by
 unfold slsT;refine List.ext_getElem? (fun j => ?_);rw [List.getElem?_replicate, List.getElem?_map];by_cases h : j < m
 ·rw [if_pos h, List.getElem?_range h]; rfl
 ·rw [if_neg h, List.getElem?_eq_none (by simp; omega)]; rfl
def updB (B : Nat -> Nat) (i b : Nat) : Nat -> Nat := fun j => if j = i then b else B j
theorem sls_set {B : Nat -> Nat} {n m i b : Nat} : (slsT B n i m).set (0 + i * 1) (.slice (some ⟨b, 0, none⟩) n n) = slsT (updB B i b) n (i + 1) m := by
 unfold slsT;refine List.ext_getElem? (fun j => ?_);rw [Nat.zero_add, Nat.mul_one, List.getElem?_set, List.getElem?_map, List.getElem?_map];by_cases hj : i = j
 ·subst hj
  rw [if_pos rfl];by_cases hk : i < m
  ·rw [if_pos (by simpa using hk), List.getElem?_range hk]; simp [updB]
  ·rw [if_neg (by simpa using hk), List.getElem?_eq_none (by simp; omega)]; rfl
 ·rw [if_neg hj]
  by_cases hk : j < m
  ·rw [List.getElem?_range hk]
   simp only [Option.map_some];by_cases h1 : j < i
   ·rw [if_pos h1, if_pos (by omega)]; simp [updB, show j ≠ i by omega]
   ·rw [if_neg h1, if_neg (by omega)]
  ·rw [List.getElem?_eq_none (by simp; omega)]; rfl
def nam (r : List Int) (v : Nat) : Prop := r.getD 0 0 = (v : Int) ∨ r.getD 1 0 = (v : Int)
instance (r : List Int) (v : Nat) : Decidable (nam r v) := inferInstanceAs (Decidable (_ ∨ _))
def nl (ls : List (List Int)) : Nat -> Nat -> List Int
 | 0, _ => []
 | k + 1, v => nl ls k v ++ (if nam (ls.getD k []) v then [(k : Int)] else [])
def updL (L : Nat -> List Int) (v : Nat) (l : List Int) : Nat -> List Int := fun w => if w = v then l else L w
theorem nl_step {ls : List (List Int)} {k u0 u1 : Nat} {y2 y3 : Int} (h : ls[k]? = some [(u0 : Int), (u1 : Int), y2, y3]) (hne : ¬ u0 = u1) : nl ls (k + 1) = updL (updL (nl ls k) u0 (nl ls k u0 ++ [(k : Int)])) u1 (nl ls k u1 ++ [(k : Int)]) := by
 funext v
 have e : ls.getD k [] = [(u0 : Int), (u1 : Int), y2, y3] := by rw [List.getD_eq_getElem?_getD, h]; rfl
 show nl ls k v ++ (if nam (ls.getD k []) v then [(k : Int)] else []) = _;rw [e];unfold updL;by_cases h1 : v = u1
 ·subst h1
  rw [if_pos rfl, if_pos (.inr rfl)]
 ·rw [if_neg h1]
  by_cases h0 : v = u0
  ·subst h0
   rw [if_pos rfl, if_pos (.inl rfl)]
  ·rw [if_neg h0, if_neg (fun q => by rcases q with q | q <;> (simp at q; omega)), List.append_nil]
def nobj (B : Nat -> Nat) (L : Nat -> List Int) (O : List Nat) : List Ob := O.map fun v => .row (B v) 3 true (ints (L v))
def nsv (B : Nat -> Nat) (L : Nat -> List Int) (v : Nat) : Value := if L v = [] then .slice none 0 0 else .slice (some ⟨B v, 0, none⟩) (L v).length OPEN
def nsl (B : Nat -> Nat) (L : Nat -> List Int) (N : Nat) : List Value := (List.range N).map (nsv B L)
theorem nsl_len {B : Nat -> Nat} {L : Nat -> List Int} {N : Nat} : (nsl B L N).length = N := by simp [nsl]
theorem nsl_get {B : Nat -> Nat} {L : Nat -> List Int} {N v : Nat} (h : v < N) : (nsl B L N)[0 + v * 1]? = some (nsv B L v) := by
 unfold nsl;rw [Nat.zero_add, Nat.mul_one, List.getElem?_map, List.getElem?_range h]; rfl
theorem nsv_ne {B : Nat -> Nat} {L : Nat -> List Int} {v w b : Nat} {l : List Int} (h : ¬ w = v) : nsv (updB B v b) (updL L v l) w = nsv B L w := by
 unfold nsv updB updL;rw [if_neg h, if_neg h]
theorem nsl_set {B : Nat -> Nat} {L : Nat -> List Int} {N v b m : Nat} {z : Int} (hm : (L v).length + m = (L v ++ [z]).length := by simp) : (nsl B L N).set (0 + v * 1) (.slice (some ⟨b, 0, none⟩) ((L v).length + m) OPEN) = nsl (updB B v b) (updL L v (L v ++ [z])) N := by
 unfold nsl;refine List.ext_getElem? (fun j => ?_);rw [Nat.zero_add, Nat.mul_one, List.getElem?_set, List.getElem?_map, List.getElem?_map];by_cases hj : v = j
 ·subst hj
  rw [if_pos rfl];by_cases hk : v < N
  ·rw [if_pos (by simpa using hk), List.getElem?_range hk]
   simp only [Option.map_some, nsv, updL, updB, if_true];rw [if_neg (by simp), hm]
  ·rw [if_neg (by simpa using hk), List.getElem?_eq_none (by simp; omega)]; rfl
 ·rw [if_neg hj]
  by_cases hk : j < N
  ·rw [List.getElem?_range hk]
   simp only [Option.map_some];rw [nsv_ne (fun q => hj q.symm)]
  ·rw [List.getElem?_eq_none (by simp; omega)]; rfl
theorem nsl_set2 {B : Nat -> Nat} {L : Nat -> List Int} {N u w b0 b m : Nat} {l0 : List Int} {z : Int} (h : ¬ w = u) (hm : (L w).length + m = (L w ++ [z]).length := by simp) : (nsl (updB B u b0) (updL L u l0) N).set (0 + w * 1) (.slice (some ⟨b, 0, none⟩) ((L w).length + m) OPEN) = nsl (updB (updB B u b0) w b) (updL (updL L u l0) w (L w ++ [z])) N := by
 have e : updL L u l0 w = L w := if_neg h;have := nsl_set (B := updB B u b0) (L := updL L u l0) (N := N) (v := w) (b := b) (m := m) (z := z) (by rw [e]; exact hm)
 rwa [e] at this
theorem nsl_nil {N : Nat} {ls : List (List Int)} {B : Nat -> Nat} : List.replicate N (.slice none 0 0) = nsl B (nl ls 0) N := by
 unfold nsl;refine List.ext_getElem? (fun j => ?_);rw [List.getElem?_replicate, List.getElem?_map];by_cases h : j < N
 ·rw [if_pos h, List.getElem?_range h]; rfl
 ·rw [if_neg h, List.getElem?_eq_none (by simp; omega)]; rfl
def NO (O : List Nat) (N : Nat) (L : Nat -> List Int) : Prop := O.Nodup /\ ∀ v, v < N -> (v ∈ O ↔ L v ≠ [])
theorem NO.zero {N : Nat} {ls : List (List Int)} : NO [] N (nl ls 0) := ⟨List.nodup_nil, fun v _ => ⟨fun h => absurd h (List.not_mem_nil), fun h => absurd rfl h⟩⟩
theorem NO.put {O : List Nat} {N : Nat} {L : Nat -> List Int} {v : Nat} {l : List Int} (h : NO O N L) (hl : l ≠ []) : NO (v :: O.erase v) N (updL L v l) := by
 refine ⟨List.nodup_cons.2 ⟨fun q => (h.1.mem_erase_iff.1 q).1 rfl, h.1.erase v⟩, fun w hw => ?_⟩;unfold updL;rw [List.mem_cons];by_cases q : w = v
 ·subst q; rw [if_pos rfl]; exact ⟨fun _ => hl, fun _ => .inl rfl⟩
 ·rw [if_neg q, h.1.mem_erase_iff]
  exact ⟨fun z => by
   rcases z with z | z; · exact absurd z q
   ·exact (h.2 w hw).1 z.2, fun z => .inr ⟨q, (h.2 w hw).2 z⟩⟩
theorem del_nobj {B : Nat -> Nat} {L : Nat -> List Int} {R : List Ob} {v : Nat} : ∀ {O : List Nat}, v ∈ O -> Del (nobj B L O ++ R) (B v) 3 true (ints (L v)) (nobj B L (O.erase v) ++ R)
 | w :: O, h => by
  by_cases q : w = v
  ·subst q
   rw [List.erase_cons_head];exact .here
  ·rw [List.erase_cons_tail (by simpa using q)]
   refine .next (del_nobj ?_);rcases List.mem_cons.1 h with h | h
   ·exact absurd h.symm q
   ·exact h
theorem nobj_congr {B B' : Nat -> Nat} {L L' : Nat -> List Int} : ∀ {O : List Nat}, (∀ v ∈ O, B v = B' v /\ L v = L' v) -> nobj B L O = nobj B' L' O
 | [], _ => rfl
 | w :: O, h => by
  obtain ⟨h1, h2⟩ := h w (by simp);show Ob.row (B w) 3 true (ints (L w)) :: nobj B L O = Ob.row (B' w) 3 true (ints (L' w)) :: nobj B' L' O;rw [h1, h2, nobj_congr (fun v hv => h v (by simp [hv]))]
theorem nobj_put {B : Nat -> Nat} {L : Nat -> List Int} {O : List Nat} {v b : Nat} {l : List Int} (h : O.Nodup) : .row b 3 true (ints l) :: nobj B L (O.erase v) = nobj (updB B v b) (updL L v l) (v :: O.erase v) := by
 show _ = Ob.row (updB B v b v) 3 true (ints (updL L v l v)) :: nobj (updB B v b) (updL L v l) (O.erase v);rw [show updB B v b v = b by simp [updB], show updL L v l v = l by simp [updL], nobj_congr (B := B) (B' := updB B v b) (L := L) (L' := updL L v l) (fun w hw => by
  have : w ≠ v := fun q => (h.mem_erase_iff.1 (q ▸ hw)).1 rfl
  simp [updB, updL, this])]
theorem a_nap {P : Program} {C : Nat -> (CF -> Bool) -> Bool} {X : FuncId -> List Value -> St -> (Value -> St -> Bool) -> Bool} {s0 : St} {n nt : Nat} {env : List (Nat × Value)} {A A' : List Ob} {R : Value -> List Ob -> Prop} {bytes v : Nat} {B : Nat -> Nat} {L : Nat -> List Int} {z0 : List Value} {zs : List Int} {x y : Ev.X} {yv : Value} (hx : xv env x = some (nsv B L v)) (hy : xv env y = some yv) (hsrc : Src s0 A 1 1 (ints zs) yv) (hn : L v = [] -> A' = A) (hd : L v ≠ [] -> Del A (B v) 3 true (ints (L v)) A') (hb1 : (L v).length + 1 <= 1048576) (hb2 : bytes * ((L v).length + 1) <= 1073741824)
 (h : ∀ b, R (.slice (some ⟨b, 0, none⟩) ((L v).length + 1) OPEN) (.row b 3 true (ints (L v ++ zs)) :: A')) : OpA P C X s0 n nt (.app 3 1 bytes z0 false x y) env A R := by
 have hz : zs.length = 1 := by
  have := hsrc.choose_spec;obtain ⟨_, _, _, _, hml, _⟩ := hsrc;simpa [ints] using hml
 by_cases q : L v = []
 ·have e : nsv B L v = .slice none 0 0 := if_pos q
  rw [e] at hx;rw [hn q] at h;rw [q] at h hb1 hb2;exact a_appn hx hy hsrc (by decide) hb1 hb2 h
 ·have e : nsv B L v = .slice (some ⟨B v, 0, none⟩) (L v).length OPEN := if_neg q
  rw [e] at hx;refine a_app hx hy hsrc (hd q) (by simp [ints]) (.inl ⟨rfl, rfl⟩) (by decide) hb1 hb2 (fun b => ?_);have := h b
  rwa [show ints (L v ++ zs) = ints (L v) ++ ints zs by simp [ints]] at this
theorem nl_len {ls : List (List Int)} {k : Nat} (h : ∀ v, (nl ls k v).length <= k) (v : Nat) : (nl ls (k + 1) v).length <= k + 1 := by
 have := h v;show (nl ls k v ++ _).length <= _;rw [List.length_append];split <;> simp <;> omega
theorem nobj_no {B : Nat -> Nat} {L : Nat -> List Int} {O : List Nat} {v : Nat} (h : ¬ v ∈ O) : nobj B L (O.erase v) = nobj B L O := by rw [List.erase_of_not_mem h]
theorem erase_two {O : List Nat} {u0 u1 : Nat} (h : ¬ u0 = u1) : (u0 :: O.erase u0).erase u1 = u0 :: (O.erase u0).erase u1 := List.erase_cons_tail (by simpa using h)
theorem NO.put2 {O : List Nat} {N : Nat} {L : Nat -> List Int} {v w : Nat} {l : List Int} (h : NO (v :: O.erase v) N L) (hne : ¬ v = w) (hl : l ≠ []) : NO (w :: (v :: O.erase v).erase w) N (updL L w l) := h.put hl
theorem nobj_two {B : Nat -> Nat} {L : Nat -> List Int} {O : List Nat} {R : List Ob} {u0 u1 b0 b1 : Nat} {l0 l1 : List Int} (h : O.Nodup) (hne : ¬ u0 = u1) : .row b1 3 true (ints l1) :: .row b0 3 true (ints l0) :: (nobj B L ((O.erase u0).erase u1) ++ R) = nobj (updB (updB B u0 b0) u1 b1) (updL (updL L u0 l0) u1 l1) (u1 :: (u0 :: O.erase u0).erase u1) ++ R := by
 have h2 : (u0 :: O.erase u0).Nodup := List.nodup_cons.2 ⟨fun q => (h.mem_erase_iff.1 q).1 rfl, h.erase u0⟩;have e : nobj (updB B u0 b0) (updL L u0 l0) ((u0 :: O.erase u0).erase u1) = .row b0 3 true (ints l0) :: nobj B L ((O.erase u0).erase u1) := by
  rw [erase_two hne];show Ob.row (updB B u0 b0 u0) 3 true (ints (updL L u0 l0 u0)) :: nobj (updB B u0 b0) (updL L u0 l0) ((O.erase u0).erase u1) = _;rw [show updB B u0 b0 u0 = b0 by simp [updB], show updL L u0 l0 u0 = l0 by simp [updL], nobj_congr (B := updB B u0 b0) (B' := B) (L := updL L u0 l0) (L' := L) (fun w hw => by
   have : w ≠ u0 := fun q => (h.mem_erase_iff.1 (q ▸ List.mem_of_mem_erase hw)).1 rfl
   simp [updB, updL, this])]
 rw [<- nobj_put (B := updB B u0 b0) (L := updL L u0 l0) (O := u0 :: O.erase u0) (v := u1) (b := b1) (l := l1) h2, e]; rfl
section
variable {X : FuncId -> List Value -> St -> (Value -> St -> Bool) -> Bool}
theorem newFlow_s (n : Nat) (M : Nat) (al : Option Addr) (cl : Nat) (ls : List (List Int)) (s : St) (hs : Wf s) (hn : 844424930131968 <= n) (hL : RowsE s 4 al ls) (hM : M <= 64) (h400 : ls.length <= 400) (hlm : lmB (M : Int) ls = true) : Spec Try.prog (tabK tabw) X (n + 900) 38 [.agg ⟨[.int .i64 (M : Int), .slice al ls.length cl]⟩] s (fun v A => ∃ b bt bn O B, v = .pointer (some ⟨b, 0, none⟩) /\ A = nobj B (nl ls ls.length) O ++ [.row b 93 false [.int .i64 (M : Int), .slice al ls.length cl, .slice (some ⟨bt, 0, none⟩) ls.length ls.length, .slice (some ⟨bn, 0, none⟩) (M + 1) (M + 1)], .row bn 25 false (nsl B (nl ls ls.length) (M + 1)), .row bt 3 false (ints (List.replicate ls.length 0))] /\ NO O (M + 1) (nl ls ls.length)) := by
 refine enter bw38_at rfl hs ?_;unfold bw38;have hlen := hL.len;refine rS (kO J (a_box J J J (fun b1 => (kM J J (Q0 (rS (kO J (Z5 J (by decide) .here rfl (kO J (Z2 J (kO J (Z1 J .here rfl (kO J (a_lenx J hL.spot (kO J (a_mksI (m := ls.length) (c := ls.length) J J (by omega) (by omega) (by omega) (fun b2 => (kO J (Z2 J (kO J (Z1 J (.next .here) J (kO J (V3 J J (by omega) (kO J (a_mks1 (m := M + 1) (c := M + 1) J J (by omega) (by omega) (by omega) (fun b3 => (kO J (Y7 J J (kO J (a_box J J J (fun b4 => (kM J J (Q0 (rQ (rS (kO J (Z2 J (kO J (Z1 J (.next (.next (.next .here))) J (kO J (a_lenx J hL.spot (kM J J ?_))))))))))))))))))))))))))))))))))))))))));refine Q0 (Y1 ?_);rw [nsl_nil (ls := ls) (B := fun _ => 0)];refine Y5 (fun j e A => ∃ (k : Nat) (O : List Nat) (B : Nat -> Nat), e = [(1, .pointer (some ⟨b1, 0, none⟩)), (3, .pointer (some ⟨b4, 0, none⟩)), (18, .slice al ls.length cl), (19, .int .i64 (ls.length : Int)), (20, .int .i64 (k : Int))] /\ A = (nobj B (nl ls k) O ++ (.row b4 93 false ([.int .i64 (M : Int), .slice al ls.length cl, .slice (some ⟨b2, 0, none⟩) ls.length ls.length, .slice (some ⟨b3, 0, none⟩) (M + 1) (M + 1)]) :: (.row b3 25 false (nsl B (nl ls k) (M + 1)) :: (.row b2 3 false (ints (List.replicate ls.length 0)) :: (.row b1 29 false ([.int .i64 (M : Int), .slice al ls.length cl]) :: []))))) /\ j = ls.length - k /\ k <= ls.length /\ NO O (M + 1) (nl ls k) /\ ∀ v, (nl ls k v).length <= k) 600 0 281474976710656 ?_ (j := _) (env2 := _) (A2 := _) ?_ ?_ ?_ ?_ ⟨0, [], fun _ => 0, rfl, rfl, rfl, Nat.zero_le _, NO.zero, (fun _ => Nat.le_refl _)⟩
 rotate_left
 ·omega
 ·omega
 ·exact (lc 1 J (lc 3 J (lc 18 J (lc 19 J (lc 20 J Less.nil)))))
 ·exact (.q (.q (.q (.q .slnil))))
 rintro n hn j _ _ ⟨k, O, B, rfl, rfl, rfl, hk, hO, hnl⟩;refine rS (kO J (V5 J J (fun h5 => ?_) (fun h5 => ?_)))
 ·obtain ⟨q4, o4, y0, y1, y2, y3, ahL, hx, hat, i0, i1, i2, i3⟩ := hL.row4 (k := k) (by omega)
  have hat2 := hat;obtain ⟨d0, d1, d2, d3, _⟩ := hat2;have := i0.lo; have := i0.hi;have := i1.lo; have := i1.hi;have := i2.lo; have := i2.hi;have := i3.lo; have := i3.hi;have hc4 := lmB_at hlm hx;obtain ⟨u0, rfl⟩ : ∃ q : Nat, y0 = (q : Int) := ⟨y0.toNat, by omega⟩;obtain ⟨u1, rfl⟩ : ∃ q : Nat, y1 = (q : Int) := ⟨y1.toNat, by omega⟩;have hl0 := hnl u0;have hl1 := hnl u1;refine Q0 (rQ (Y0 J (Q1 (W0 (rQ (Y1 (rS (kM J J (kO J (a_iaA (j := k) ahL rfl rfl (by first | rfl | omega) (by first | decide | omega) (kO J (a_ldar J (by decide) (by assumption) J (kO J (a_new J J (fun b6 => (kM J J (kZ J (V6 J J .here rfl rfl rfl rfl (Q0 (rS (kM J J (kO J (V4 J (kO J (Z2 J (kO J (Z1 J (.next (.app .here)) J (kO J (Z2 J (kO J (Z1 J .here rfl (kM J J (kO J (V4 J ?_))))))))))))))))))))))))))))))))));refine kO J (Z2 J (kO J (Z1 J (.next (.app .here)) J (kO J (Z2 J (kO J (Z1 J .here rfl (kO J (W4 (j := u0) J J (by omega) (by omega) (kO J (Z1 J (.next (.app (.next .here))) (nsl_get (by omega)) (kM J J (kO J (a_lit J J J (fun b7 => (kO J (a_nap (zs := [_]) J J (Src.own .here rfl (by simp [ints])) (fun h => by rw [nobj_no (show ¬ u0 ∈ O from fun q => (hO.2 _ (by omega)).1 q h)]) (fun h => .next (.next (del_nobj ((hO.2 _ (by omega)).2 h)))) (by omega) (by omega) (fun b8 => (kZ J (a_again J J (.next (.next .here)) J (by simp [eqV, eqA, eqL, kindEq, intEq_eq, U6 hL.spot]) (kZ J (a_again J J (.next (.next (.next (.app .here)))) J (by simp [eqV, eqA, eqL, kindEq, intEq_eq, U6 hL.spot]) (kO J (W4 (j := u0) J J (by omega) (by omega) (kZ J (a_st J J (by rw [nsl_set (z := (k : Int))]; exact (.next (.next (.next (.app (.next .here)))))) (by rw [Nat.blt_eq, nsl_len]; omega) J (Q0 (rI (kM J J (kO J (V4 J (kO J (Z2 J (kO J (Z1 J (.next (.next (.next (.app .here)))) J (kO J (Z2 J (kO J (Z1 J (.next (.next .here)) J (kM J J (kO J (V4 J (kO J (Z2 J ?_))))))))))))))))))))))))))))))))))))))))))));refine kO J (Z1 J (.next (.next (.next (.app .here)))) J (kO J (Z2 J (kO J (Z1 J (.next (.next .here)) J (kO J (W4 (j := u1) J J (by omega) (by omega) (kO J (Z1 J (.next (.next (.next (.app (.next .here))))) (by rw [nsl_get (by omega), nsv_ne (by omega)]) (kM J J (kO J (a_lit J J J (fun b9 => (kO J (a_nap (zs := [_]) J J (Src.own .here rfl (by simp [ints])) (fun h => by rw [nobj_no (show ¬ u1 ∈ O.erase u0 from fun q => (hO.2 _ (by omega)).1 (List.mem_of_mem_erase q) h)]) (fun h => .next (.next (.next (.next (del_nobj ((List.mem_erase_of_ne (by omega)).2 ((hO.2 _ (by omega)).2 h))))))) (by omega) (by omega) (fun b10 => (kZ J (a_again J J (.next (.next (.next (.next .here)))) J (by simp [eqV, eqA, eqL, kindEq, intEq_eq, U6 hL.spot]) (kZ J (a_again J J (.next (.next (.next (.next (.next (.app .here)))))) J (by simp [eqV, eqA, eqL, kindEq, intEq_eq, U6 hL.spot]) (kO J (W4 (j := u1) J J (by omega) (by omega) (kZ J (a_st J J (by rw [nsl_set2 (show ¬ u1 = u0 by omega) (z := (k : Int))]; exact (.next (.next (.next (.next (.next (.app (.next .here)))))))) (by rw [Nat.blt_eq, nsl_len]; omega) J (Q0 (U1 (W0 (rI (kO J (V3 J J (by omega) (kM J J (Q0 (W0 ?_)))))))))))))))))))))))))))))))));have hst := nl_step hx (by omega);exact ⟨rfl, _, _, _, (show ls.length - (k + 1) < ls.length - k by omega), (lc 1 J (lc 3 J (lc 18 J (lc 19 J (lc 20 J Less.nil))))), (.q (.cons _ (.q (.cons _ (.cons _ (.r (.q (.q (.q (.q .slnil)))))))))), ⟨k + 1, (u1 :: (u0 :: O.erase u0).erase u1), updB (updB B u0 b8) u1 b10, rfl, (by rw [hst]; exact nobj_two hO.1 (by omega)), rfl, by omega, (by rw [hst]; exact (hO.put (by simp)).put2 (by omega) (by simp)), (fun v => nl_len hnl v)⟩⟩
 ·refine Q0 (rQ (Z0 J (Q5 (Q3 (Q3 (Z3 (W0 (rS (kM J J (kM J J (Q0 (Y3 ?_))))))))))))
  have hkN : k = ls.length := by omega
  subst hkN;exact end1A J (.r (.q (.q (.q (.cons _ .slnil))))) ⟨_, _, _, O, B, rfl, rfl, hO⟩
end
def xs (x : Nat -> Int) (N : Nat) : List Int := (List.range N).map x
theorem Q4 {x : Nat -> Int} {N : Nat} : (xs x N).length = N := by simp [xs]
theorem U4 {x : Nat -> Int} {N k : Nat} (h : k < N) : (xs x N).getD k 0 = x k := by
 unfold xs;rw [List.getD_eq_getElem?_getD, List.getElem?_map, List.getElem?_range h]; rfl
def W2 {α : Type} (x : Nat -> α) (i : Nat) (v : α) : Nat -> α := fun j => if j = i then v else x j
theorem xs_set {x : Nat -> Int} {N k : Nat} {v : Int} : (xs x N).set k v = xs (W2 x k v) N := by
 unfold xs;refine List.ext_getElem? (fun j => ?_);rw [List.getElem?_set, List.getElem?_map, List.getElem?_map];by_cases hj : k = j
 ·subst hj
  rw [if_pos rfl];by_cases hk : k < N
  ·rw [if_pos (by simpa using hk), List.getElem?_range hk]; simp [W2]
  ·rw [if_neg (by simpa using hk), List.getElem?_eq_none (by simp; omega)]; rfl
 ·rw [if_neg hj]
  by_cases hk : j < N
  ·rw [List.getElem?_range hk]; simp [W2]; intro h; omega
  ·rw [List.getElem?_eq_none (by simp; omega)]; rfl
def cell (p : Nat × Nat × Nat × Int) : List Value := [.int .i64 p.1, .bool false, .int .i64 p.2.1, .int .i64 p.2.2.1, .int .i64 p.2.2.2]
def cvs (c : Nat -> Nat × Nat × Nat × Int) : Nat -> List Value
 | 0 => []
 | n + 1 => cvs c n ++ cell (c n)
theorem cvs_len {c : Nat -> Nat × Nat × Nat × Int} : ∀ {N : Nat}, (cvs c N).length = N * 5
 | 0 => rfl
 | N + 1 => by
  show (cvs c N ++ cell (c N)).length = _;rw [List.length_append, cvs_len];show N * 5 + 5 = _;omega
theorem cvs_get {c : Nat -> Nat × Nat × Nat × Int} {j t : Nat} (ht : t < 5) : ∀ {N : Nat}, j < N -> (cvs c N)[j * 5 + t]? = (cell (c j))[t]?
 | N + 1, h => by
  show (cvs c N ++ cell (c N))[j * 5 + t]? = _;by_cases q : j = N
  ·subst q
   rw [List.getElem?_append_right (by rw [cvs_len]; omega), cvs_len]
   congr 1; omega
  ·rw [List.getElem?_append_left (by rw [cvs_len]; omega)]
   exact cvs_get ht (by omega)
theorem cvs_zero {N : Nat} : repeatN [.int .i64 0, .bool false, .int .i64 0, .int .i64 0, .int .i64 0] N = cvs (fun _ => (0, 0, 0, 0)) N := by
 have key : ∀ n, repeatN [.int .i64 0, .bool false, .int .i64 0, .int .i64 0, .int .i64 0] n ++ cell (0, 0, 0, 0) = cell (0, 0, 0, 0) ++ repeatN [.int .i64 0, .bool false, .int .i64 0, .int .i64 0, .int .i64 0] n := by
  intro n
  induction n with
  | zero => rfl
  | succ n ih =>
   show (cell (0, 0, 0, 0) ++ repeatN _ n) ++ cell (0, 0, 0, 0) = cell (0, 0, 0, 0) ++ (cell (0, 0, 0, 0) ++ repeatN _ n);rw [List.append_assoc, ih]
 induction N with
 | zero => rfl
 | succ n ih =>
  show cell (0, 0, 0, 0) ++ repeatN _ n = cvs _ n ++ cell (0, 0, 0, 0);rw [<- key, ih]
theorem overL_some : ∀ {r l : List Value} {i : Nat}, i + r.length <= l.length -> ∃ l', overL l i r = some l'
 | [], l, _, _ => ⟨l, rfl⟩
 | v :: r, l, i, h => by
  have h1 : i < l.length := by simp at h; omega
  obtain ⟨l', e⟩ := overL_some (r := r) (l := l.set i v) (i := i + 1) (by rw [List.length_set]; simp at h; omega);refine ⟨l', ?_⟩;unfold overL;rw [List.getElem?_eq_getElem h1];exact e
theorem cam_over {c : Nat -> Nat × Nat × Nat × Int} {N j : Nat} {p : Nat × Nat × Nat × Int} (h : j < N) : overL (cvs c N) (0 + j * 5) (cell p) = some (cvs (W2 c j p) N) := by
 rw [Nat.zero_add];have hl : j * 5 + (cell p).length <= (cvs c N).length := by rw [cvs_len]; show j * 5 + 5 <= _; omega
 obtain ⟨l', e⟩ := overL_some hl;rw [e];obtain ⟨e2, _⟩ := overL_eq e (by omega);subst e2
 congr 1
 refine List.ext_getElem? (fun q => ?_);rw [over_get hl];by_cases hq : q < N * 5
 ·have e3 : q = q / 5 * 5 + q % 5 := by omega
  have h5 : q % 5 < 5 := by omega
  have hn : q / 5 < N := by omega
  by_cases hj : q / 5 = j
  ·rw [if_pos (by show _ /\ q < j * 5 + 5; omega)]
   rw [show (cvs (W2 c j p) N)[q]? = (cell p)[q % 5]? from by rw [e3, cvs_get h5 hn]; simp [W2, hj, h5]]
   congr 1; omega
  ·rw [if_neg (by show ¬ (_ /\ q < j * 5 + 5); omega)]
   rw [show (cvs (W2 c j p) N)[q]? = (cvs c N)[q]? from by rw [e3, cvs_get h5 hn, cvs_get h5 hn]; simp [W2, hj]]
 ·rw [if_neg (by show ¬ (_ /\ q < j * 5 + 5); omega), List.getElem?_eq_none (by rw [cvs_len]; omega), List.getElem?_eq_none (by rw [cvs_len]; omega)]
section
variable {P : Program} {C : Nat -> (CF -> Bool) -> Bool} {X : FuncId -> List Value -> St -> (Value -> St -> Bool) -> Bool} {s0 : St} {n nt : Nat} {env : List (Nat × Value)} {A : List Ob} {R : Value -> List Ob -> Prop} {B : Nat -> Nat} {L : Nat -> List Int} {v : Nat}
theorem a_lenN {x : Ev.X} (hx : xv env x = some (nsv B L v)) (h : R (.int .i64 ((L v).length : Int)) A) : OpA P C X s0 n nt (.len x) env A R := by
 by_cases q : L v = []
 ·unfold nsv at hx
  rw [if_pos q] at hx;rw [q] at h;exact a_len0 hx h
 ·unfold nsv at hx
  rw [if_neg q] at hx;exact a_len hx h
theorem a_iaN {x i : Ev.X} {j size : Nat} {ik : IntKind} {z : Int} (hx : xv env x = some (nsv B L v)) (hi : xv env i = some (.int ik z)) (hz : z = (j : Int)) (hj : j < (L v).length) (h : R (.pointer (some ⟨B v, 0 + j * size, none⟩)) A) : OpA P C X s0 n nt (.ia x i size) env A R := by
 have q : ¬ L v = [] := fun e => by rw [e] at hj; exact absurd hj (Nat.not_lt_zero _)
 unfold nsv at hx;rw [if_neg q] at hx;exact W4 hx hi hz hj h
theorem a_mks5 {e bytes m c : Nat} {z : List Value} {size : Nat} {x y : Ev.X} (hx : xv env x = some (.int .i64 (m : Int))) (hy : xv env y = some (.int .i64 (c : Int))) (hc : m <= c) (hb1 : c <= 1048576) (hb2 : bytes * c <= 1073741824) (hs2 : c * size = (repeatN z c).length)
 (h : ∀ b, R (.slice (some ⟨b, 0, none⟩) m c) (.row b e false (repeatN z c) :: A)) : OpA P C X s0 n nt (.mks e size bytes z x y) env A R := .mk fun s hs T hT k hk => by
 refine Y6 hT (k := fun l => valK T y (fun c => mksK s e size bytes z l c k)) hx (Y6 hT (k := fun c => mksK s e size bytes z _ c k) hy ?_);show ifB true (ifB true (ifB (Nat.ble m c) (ifB (Nat.ble c 1048576) (ifB (Nat.ble (Nat.mul bytes c) 1073741824) (addsK .leaf 0 (repeatN z c) _) false) false) false) false) false = true;rw [show Nat.ble m c = true from by rw [Nat.ble_eq]; exact hc, show Nat.ble c 1048576 = true from by rw [Nat.ble_eq]; exact hb1, show Nat.ble (Nat.mul bytes c) 1073741824 = true from by rw [Nat.ble_eq]; exact hb2];show addsK .leaf 0 (repeatN z c) _ = true;refine rowOfList (fun t ht hg => nOf_of ?_);rw [forceN_eq];exact newRow_of (l := repeatN z c) hs2 hs.wf ht hg (fun s' xx _ ho => hk _ _ ⟨_, hs.new xx ho, h s.n⟩)
end
theorem own_nobj {B : Nat -> Nat} {L : Nat -> List Int} {R : List Ob} {v : Nat} : ∀ {O : List Nat}, v ∈ O -> Own (nobj B L O ++ R) (B v) 3 true (ints (L v))
 | w :: O, h => by
  by_cases q : v = w
  ·subst q; exact .here
  ·refine .next (own_nobj ?_)
   rcases List.mem_cons.1 h with h | h
   ·exact absurd h q
   ·exact h
theorem nl_mem {ls : List (List Int)} {v : Nat} : ∀ {k q : Nat}, q < (nl ls k v).length -> ∃ i : Nat, (nl ls k v).getD q 0 = (i : Int) /\ i < k /\ nam (ls.getD i []) v
 | 0, q, h => absurd h (Nat.not_lt_zero q)
 | k + 1, q, h => by
  have e : nl ls (k + 1) v = nl ls k v ++ (if nam (ls.getD k []) v then [(k : Int)] else []) := rfl;rw [e] at h ⊢;rw [List.length_append] at h;rw [List.getD_eq_getElem?_getD];by_cases h1 : q < (nl ls k v).length
  ·obtain ⟨i, h2, h3, h4⟩ := nl_mem h1
   rw [List.getElem?_append_left h1, <- List.getD_eq_getElem?_getD];exact ⟨i, h2, by omega, h4⟩
  ·rw [List.getElem?_append_right (by omega)]
   by_cases h5 : nam (ls.getD k []) v
   ·rw [if_pos h5] at h ⊢
    rw [show q - (nl ls k v).length = 0 by simp at h; omega];exact ⟨k, rfl, by omega, h5⟩
   ·rw [if_neg h5] at h
    simp at h; omega
structure Fs where
 x : Nat -> Int
 c : Nat -> Nat × Nat × Nat × Int
 l : Int
def rlx (ls : List (List Int)) (s : Fs) (f i : Nat) : Fs :=
 if (ls.getD i []).getD 1 0 = (f : Int) then s
 else if s.x f + (ls.getD i []).getD 2 0 < s.x ((ls.getD i []).getD 1 0).toNat then
  ⟨W2 s.x ((ls.getD i []).getD 1 0).toNat (s.x f + (ls.getD i []).getD 2 0), W2 s.c ((ls.getD i []).getD 1 0).toNat (i, f, ((ls.getD i []).getD 1 0).toNat, (ls.getD i []).getD 2 0), (ls.getD i []).getD 1 0⟩
 else s
def rwS (ls : List (List Int)) (s : Fs) (f : Nat) : Nat -> Fs
 | 0 => s
 | q + 1 => rlx ls (rwS ls s f q) f ((nl ls ls.length f).getD q 0).toNat
def lwS (ls : List (List Int)) (s : Fs) : Nat -> Fs
 | 0 => s
 | v + 1 => if (lwS ls s v).x v = 1000000000 then lwS ls s v else rwS ls (lwS ls s v) v (nl ls ls.length v).length
theorem rws_back {ls : List (List Int)} {s : Fs} {f q i u0 : Nat} {y2 y3 : Int} (hi : (nl ls ls.length f).getD q 0 = (i : Int)) (hx : ls[i]? = some [(u0 : Int), (f : Int), y2, y3]) : rwS ls s f (q + 1) = rwS ls s f q := by
 have e : ls.getD i [] = [(u0 : Int), (f : Int), y2, y3] := by rw [List.getD_eq_getElem?_getD, hx]; rfl
 show rlx ls _ f _ = _;rw [hi, Int.toNat_natCast];unfold rlx;rw [e];exact if_pos rfl
theorem rws_less {ls : List (List Int)} {s : Fs} {f q i u0 u1 : Nat} {y2 y3 : Int} (hi : (nl ls ls.length f).getD q 0 = (i : Int)) (hx : ls[i]? = some [(u0 : Int), (u1 : Int), y2, y3]) (hne : ¬ (u1 : Int) = (f : Int)) (hlt : (rwS ls s f q).x f + y2 < (rwS ls s f q).x u1) : rwS ls s f (q + 1) = ⟨W2 (rwS ls s f q).x u1 ((rwS ls s f q).x f + y2), W2 (rwS ls s f q).c u1 (i, f, u1, y2), (u1 : Int)⟩ := by
 have e : ls.getD i [] = [(u0 : Int), (u1 : Int), y2, y3] := by rw [List.getD_eq_getElem?_getD, hx]; rfl
 show rlx ls _ f _ = _;rw [hi, Int.toNat_natCast];unfold rlx;rw [e];show (if (u1 : Int) = (f : Int) then _ else if (rwS ls s f q).x f + y2 < (rwS ls s f q).x (u1 : Int).toNat then _ else _) = _;rw [if_neg hne, Int.toNat_natCast, if_pos hlt]; rfl
theorem rws_more {ls : List (List Int)} {s : Fs} {f q i u0 u1 : Nat} {y2 y3 : Int} (hi : (nl ls ls.length f).getD q 0 = (i : Int)) (hx : ls[i]? = some [(u0 : Int), (u1 : Int), y2, y3]) (hlt : ¬ (rwS ls s f q).x f + y2 < (rwS ls s f q).x u1) : rwS ls s f (q + 1) = rwS ls s f q := by
 have e : ls.getD i [] = [(u0 : Int), (u1 : Int), y2, y3] := by rw [List.getD_eq_getElem?_getD, hx]; rfl
 show rlx ls _ f _ = _;rw [hi, Int.toNat_natCast];unfold rlx;rw [e];show (if (u1 : Int) = (f : Int) then _ else if (rwS ls s f q).x f + y2 < (rwS ls s f q).x (u1 : Int).toNat then _ else _) = _;rw [Int.toNat_natCast, if_neg hlt];split <;> rfl
theorem lws_free {ls : List (List Int)} {s : Fs} {v : Nat} (h : (lwS ls s v).x v = 1000000000) : lwS ls s (v + 1) = lwS ls s v := if_pos h
theorem lws_go {ls : List (List Int)} {s : Fs} {v : Nat} (h : ¬ (lwS ls s v).x v = 1000000000) : lwS ls s (v + 1) = rwS ls (lwS ls s v) v (nl ls ls.length v).length := if_neg h
section
variable {X : FuncId -> List Value -> St -> (Value -> St -> Bool) -> Bool}
end
end Ev
end Go.Proofs.Ytoeklhdklcpllaa
namespace Go.Proofs.Ytoeklhdklcpllaa.Ev
open Go Go.RowKit
section
variable {P : Program} {C : Nat -> (CF -> Bool) -> Bool} {X : FuncId -> List Value -> St -> (Value -> St -> Bool) -> Bool} {nt : Nat} {r : Option Nat} {env : List (Nat × Value)} {D : List Nat} {Q : Out -> List (Nat × Value) -> List Nat -> St -> Prop} {s : St}
theorem run_loopD {b : CC} (I : Nat -> List (Nat × Value) -> List Nat -> St -> Prop) (c K : Nat) (hb : ∀ n, K <= n -> ∀ j e D s, I j e D s -> RunE P C X (n + c) nt r b e D s (thenQ (fun e' D' s' => ∃ j' e2, j' < j /\ Less e' e2 /\ I j' e2 D' s') Q)) :
 ∀ {n j : Nat} {env : List (Nat × Value)} {D : List Nat} {s : St}, K <= n -> I j env D s -> RunE P C X (n + j + c + 1) nt r (.loop b) env D s Q := by
 intro n j
 induction j using Nat.strongRecOn generalizing n with
 | ind j ih =>
  intro env D s hK hI T hT k hk;show (oracX P C X (n + j + c)).code r b T D s (fun x T D s => onOut x ((oracX P C X (n + j + c)).code r (.loop b) T D s k) (k x T D s) (fun _ => k x T D s) (fun _ => k x T D s)) = true;refine hb (n + j) (by omega) j env D s hI T hT _ (fun x e T' D' s' hT' hq => ?_);cases x with
  | normal =>
   obtain ⟨j', e2, hlt, hl, hI'⟩ := hq;have e1 : n + j + c = (n + (j - j' - 1)) + j' + c + 1 := by omega
   show (oracX P C X (n + j + c)).code r (.loop b) T' D' s' k = true;rw [e1];exact ih j' hlt (n := n + (j - j' - 1)) (by omega) hI' T' (hT'.less hl) k hk
  | ret => exact hk _ _ T' D' s' hT' hq
  | exit i => exact hk _ _ T' D' s' hT' hq
  | goto i => exact hk _ _ T' D' s' hT' hq
theorem run_loop_inD {b : CC} (I : Nat -> List (Nat × Value) -> List Nat -> St -> Prop) (c K L : Nat) (hb : ∀ n, K <= n -> ∀ j e D s, I j e D s -> RunE P C X (n + c) nt r b e D s (thenQ (fun e' D' s' => ∃ j' e2, j' < j /\ Less e' e2 /\ I j' e2 D' s') Q))
 {n j : Nat} {env2 : List (Nat × Value)} (hn : K + L <= n) (hj : j <= L) (hl : Less env env2) (hI : I j env2 D s) : RunE P C X (n + c + 1) nt r (.loop b) env D s Q := by
 have := run_loopD (P := P) (C := C) (X := X) (nt := nt) (r := r) (Q := Q) I c K hb (n := n - j) (by omega) hI;rw [show n - j + j + c + 1 = n + c + 1 by omega] at this;exact this.less hl
end
section
variable {P : Program} {C : Nat -> (CF -> Bool) -> Bool} {X : FuncId -> List Value -> St -> (Value -> St -> Bool) -> Bool} {s0 : St} {n nt : Nat} {r : Option Nat} {env : List (Nat × Value)} {D : List Nat} {A : List Ob} {Q : Out -> List (Nat × Value) -> List Nat -> List Ob -> Prop}
theorem r_loopD {b : CC} (I : Nat -> List (Nat × Value) -> List Nat -> List Ob -> Prop) (c K L : Nat) (hb : ∀ n, K <= n -> ∀ j e D A, I j e D A -> RunA P C X s0 (n + c) nt r b e D A (thenA (fun e' D' A' => ∃ j' e2 A2, j' < j /\ Less e' e2 /\ A2.Sublist A' /\ I j' e2 D' A2) Q))
 {j : Nat} {env2 : List (Nat × Value)} {A2 : List Ob} (hn : K + L <= n) (hj : j <= L) (hl : Less env env2) (ha : A2.Sublist A) (hI : I j env2 D A2) : RunA P C X s0 (n + c + 1) nt r (.loop b) env D A Q := .mk fun s hs => by
 refine run_loop_inD (env2 := env2) (fun j e D s => ∃ A, Hld s0 A s /\ I j e D A) c K L (fun n hK j e D s hI => ?_) hn hj hl ⟨A2, hs.sub ha, hI⟩;obtain ⟨A1, h1, h2⟩ := hI;refine ((hb n hK j e D A1 h2).go s h1).mono (fun x e D' s' hq => ?_);obtain ⟨A', h3, h4⟩ := hq;cases x with
 | normal =>
  obtain ⟨j', e2, A2, h6, h7, h8, h9⟩ := h4;exact ⟨j', e2, h6, h7, A2, h3.sub h8, h9⟩
 | ret => exact ⟨A', h3, h4⟩
 | exit i => exact ⟨A', h3, h4⟩
 | goto i => exact ⟨A', h3, h4⟩
theorem deld_map {R : List Ob} : ∀ {qs : List Nat}, DelD (qs.map Ob.dfr ++ R) qs R
 | [] => .nil
 | q :: qs => .cons .here deld_map
theorem a_copy1 {x y : Ev.X} {b off len cap b' off' n' c' e j : Nat} {op : Bool} {l more : List Value} {A' : List Ob} {R : Value -> List Ob -> Prop} (hx : xv env x = some (.slice (some ⟨b, off, none⟩) len cap)) (hy : xv env y = some (.slice (some ⟨b', off', none⟩) n' c')) (hj : j = if n' <= len then n' else len) (h0 : j ≠ 0) (hm : more.length = j)
 (hr : (∃ e op l, Own A b' e op l /\ segL l off' more.length = some more) ∨ Ats s0 b' off' more) (hu : Upd A b e op l (over l off more) A') (hfit : off + j <= l.length) (h : R (.int .i64 (j : Int)) A') : OpA P C X s0 n nt (.copy 1 x y) env A R := .mk fun s hs T hT k hk => by
 refine Y6 hT (k := fun x => valK T y (fun y => copyK s 1 x y k)) hx (Y6 hT (k := fun y => copyK s 1 _ y k) hy ?_);have hne : more ≠ [] := fun q => h0 (by rw [<- hm, q]; rfl)
 have ha : Ats s b' off' more := by
  rcases hr with ⟨e, op, l, h3, h4⟩ | h3
  ·exact (hs.own h3).ats (segL_eq h4).2
  ·exact hs.ats h3
 have key : (fun j => ifB (Nat.beq j 0) (k (.int .i64 (.ofNat 0)) s) (rowK s b (fun m c e op => copyToK (fun h => seeK s b' (fun c' => segK c' off' (Nat.mul j 1) h) (fun g => romSegK g off' (Nat.mul j 1) h)) (fun l =>
  ifB (Nat.ble (Nat.add off (Nat.mul j 1)) m) (putsK c off l (fun c => storeK s b (.cells m c e op) (k (.int .i64 (.ofNat j))))) false)))) j = true := by
  show ifB (Nat.beq j 0) _ (rowK s b _) = true;rw [show Nat.beq j 0 = false from beqF h0];obtain ⟨c, hc, hf, hg⟩ := hs.own hu.own;show objK s b _ = true;refine objK_of (k := _) hc ?_;obtain ⟨f, h5, h6⟩ := ha.see hne;have done : ifB (Nat.ble (Nat.add off (Nat.mul j 1)) l.length) (putsK c off more (fun c => storeK s b (.cells l.length c e op) (k (.int .i64 (.ofNat j))))) false = true := by
   rw [show Nat.ble (Nat.add off (Nat.mul j 1)) l.length = true from by rw [Nat.ble_eq]; show off + j * 1 <= l.length; omega];have hfit2 : off + more.length <= l.length := by omega
   refine putsK_of hf hfit2 (fun c' hc' hg' => storeK_of hs.wf (Full.lt hs.wf hc) (fun s1 hm1 hn1 hd1 => ?_));have hol : (over l off more).length = l.length := over_length hfit2;refine hk _ _ ⟨_, hs.upd hu hm1 ⟨c', by rw [hol]; exact hd1, by rw [hol]; exact hc', fun q => ?_⟩, h⟩;rw [hg', over_get hfit2];by_cases h1 : off <= q /\ q < off + more.length
   ·rw [if_pos h1, if_pos h1]
   ·rw [if_neg h1, if_neg h1, hg]
  have hj1 : more.length = Nat.mul j 1 := by show _ = j * 1; omega
  refine seeK_of h5 (fun c2 hc2 => ?_) ?_
  ·subst hc2; exact segK_of (k := fun l' => ifB (Nat.ble (Nat.add off (Nat.mul j 1)) l.length) (putsK c off l' (fun c => storeK s b (.cells l.length c e op) (k (.int .i64 (.ofNat j))))) false) hj1 (fun q hq => h6 q (by rw [hj1]; exact hq)) done
  ·exact romSegK_of (k := fun l' => ifB (Nat.ble (Nat.add off (Nat.mul j 1)) l.length) (putsK c off l' (fun c => storeK s b (.cells l.length c e op) (k (.int .i64 (.ofNat j))))) false) hj1 (fun q hq => h6 q (by rw [hj1]; exact hq)) done
 show minN n' len (fun j => ifB (Nat.beq j 0) (k (.int .i64 (.ofNat 0)) s) (rowK s b (fun m c e op => copyToK (fun h => seeK s b' (fun c' => segK c' off' (Nat.mul j 1) h) (fun g => romSegK g off' (Nat.mul j 1) h)) (fun l =>
  ifB (Nat.ble (Nat.add off (Nat.mul j 1)) m) (putsK c off l (fun c => storeK s b (.cells m c e op) (k (.int .i64 (.ofNat j))))) false)))) = true
 unfold minN;by_cases q : n' <= len
 ·rw [show Nat.ble n' len = true from by rw [Nat.ble_eq]; exact q]
  rw [if_pos q] at hj;subst hj;exact key
 ·rw [show Nat.ble n' len = false from by
   cases hb : Nat.ble n' len with
   | false => rfl
   | true => rw [Nat.ble_eq] at hb; omega]
  rw [if_neg q] at hj;subst hj;exact key
theorem a_slcT {e : Nat} {x hi : Ev.X} {b o len c h : Nat} {z : Int} {R : Value -> List Ob -> Prop} (hx : xv env x = some (.slice (some ⟨b, o, none⟩) len c)) (hi' : xv env hi = some (.int .i64 z)) (hz : z = (h : Int)) (hh : h <= c) (hc : c < OPEN) (hR : R (.slice (some ⟨b, o, none⟩) h c) A) : OpA P C X s0 n nt (.slc e 1 x none (some hi) none) env A R := .mk fun s hs T hT k hk => by
 subst hz;refine Y6 hT (k := fun x => valOK T none (fun lo => valOK T (some hi) (fun hi => valOK T none (fun mx => slcK s e 1 x lo hi mx (vK s k))))) hx ?_;refine Y6 hT (k := fun v => slcK s e 1 _ none (some v) none (vK s k)) hi' ?_;unfold slcK;rw [slc_first hh hc];show forceV (Value.slice (some ⟨b, o, none⟩) h c) (vK s k) = true;rw [forceV_eq];exact hk _ _ ⟨A, hs, hR⟩
theorem slc_from {row : Nat -> Option (Nat × Nat × Bool)} {e b o len c l : Nat} (h : l <= len) (hl : len <= c) (hlc : l < c) (hc : c < OPEN) : evSlc row e 1 (.slice (some ⟨b, o, none⟩) len c) (some (.int .i64 (l : Int))) none none = some (.slice (some ⟨b, o + l * 1, none⟩) (len - l) (c - l)) := by
 show sel (Nat.ble OPEN c) _ (sel (Nat.ble len c) (sel (Nat.ble l len) (some (Value.slice (some ⟨b, sel (Nat.beq c l) o (o + l * 1), none⟩) (len - l) (c - l))) none) none) = _;rw [show Nat.ble OPEN c = false from by
  cases hb : Nat.ble OPEN c with
  | false => rfl
  | true => rw [Nat.ble_eq] at hb; omega, show Nat.ble len c = true from by rw [Nat.ble_eq]; exact hl, show Nat.ble l len = true from by rw [Nat.ble_eq]; exact h, show Nat.beq c l = false from beqF (by omega)]
 rfl
theorem a_slcF {e : Nat} {x lo : Ev.X} {b o len c l : Nat} {z : Int} {R : Value -> List Ob -> Prop} (hx : xv env x = some (.slice (some ⟨b, o, none⟩) len c)) (hi' : xv env lo = some (.int .i64 z)) (hz : z = (l : Int)) (hh : l <= len) (hl : len <= c) (hlc : l < c) (hc : c < OPEN) (hR : R (.slice (some ⟨b, o + l * 1, none⟩) (len - l) (c - l)) A) : OpA P C X s0 n nt (.slc e 1 x (some lo) none none) env A R := .mk fun s hs T hT k hk => by
 subst hz;refine Y6 hT (k := fun x => valOK T (some lo) (fun lo => valOK T none (fun hi => valOK T none (fun mx => slcK s e 1 x lo hi mx (vK s k))))) hx ?_;refine Y6 hT (k := fun v => slcK s e 1 _ (some v) none none (vK s k)) hi' ?_;unfold slcK;rw [slc_from hh hl hlc hc];show forceV (Value.slice (some ⟨b, o + l * 1, none⟩) (len - l) (c - l)) (vK s k) = true;rw [forceV_eq];exact hk _ _ ⟨A, hs, hR⟩
end
end Go.Proofs.Ytoeklhdklcpllaa.Ev
namespace Go.Proofs.Ytoeklhdklcpllaa
open Go Go.RowKit
namespace Ev
def itr (c : Nat -> Nat × Nat × Nat × Int) (l : Nat) : Nat -> Nat
 | 0 => l
 | m + 1 => (c (itr c l m)).2.1
theorem itr_lt {c : Nat -> Nat × Nat × Nat × Int} {N l : Nat} (hc : ∀ v, v < N -> (c v).2.1 < N) (hl : l < N) : ∀ m, itr c l m < N
 | 0 => hl
 | m + 1 => hc _ (itr_lt hc hl m)
theorem itr_add {c : Nat -> Nat × Nat × Nat × Int} {l a : Nat} : ∀ b, itr c l (a + b) = itr c (itr c l a) b
 | 0 => rfl
 | b + 1 => by show (c (itr c l (a + b))).2.1 = (c (itr c (itr c l a) b)).2.1; rw [itr_add b]
theorem pigeon : ∀ (N : Nat) (f : Nat -> Nat), (∀ i, i <= N -> f i < N) -> ∃ i j, i < j /\ j <= N /\ f i = f j
 | 0, f, h => absurd (h 0 (Nat.le_refl _)) (Nat.not_lt_zero _)
 | N + 1, f, h => by
  by_cases q : ∃ i, i <= N /\ f i = f (N + 1)
  ·obtain ⟨i, h1, h2⟩ := q
   exact ⟨i, N + 1, by omega, Nat.le_refl _, h2⟩
  ·have hq : ∀ i, i <= N -> f i ≠ f (N + 1) := fun i hi e => q ⟨i, hi, e⟩
   have ha := h (N + 1) (Nat.le_refl _);obtain ⟨i, j, h1, h2, h3⟩ := pigeon N (fun i => if f i = N then f (N + 1) else f i) (fun i hi => by
    have h4 := hq i hi;have h5 := h i (by omega);show (if f i = N then f (N + 1) else f i) < N;split <;> omega)
   refine ⟨i, j, h1, by omega, ?_⟩;have h4 := hq i (by omega);have h5 := hq j (by omega);have h6 : (if f i = N then f (N + 1) else f i) = (if f j = N then f (N + 1) else f j) := h3;split at h6 <;> split at h6 <;> omega
theorem itr_back {c : Nat -> Nat × Nat × Nat × Int} {N l : Nat} (hc : ∀ v, v < N -> (c v).2.1 < N) (hl : l < N) : ∃ p, 1 <= p /\ p <= N /\ itr c (itr c l N) p = itr c l N := by
 obtain ⟨i, j, h1, h2, h3⟩ := pigeon N (itr c l) (fun i _ => itr_lt hc hl i);refine ⟨j - i, by omega, by omega, ?_⟩;have e1 : itr c l N = itr c (itr c l i) (N - i) := by rw [<- itr_add]; congr 1; omega
 have e2 : itr c (itr c l N) (j - i) = itr c (itr c l j) (N - i) := by
  rw [<- itr_add, <- itr_add]; congr 1; omega
 rw [e2, <- h3, <- e1]
theorem cvs_from {c : Nat -> Nat × Nat × Nat × Int} {N j : Nat} (h : j < N) : (cvs c N)[0 + j * 5 + 2]? = some (.int .i64 ((c j).2.1 : Int)) := by
 rw [Nat.zero_add, cvs_get (by decide) h]; rfl
theorem cvs_lim {c : Nat -> Nat × Nat × Nat × Int} {N j : Nat} (h : j < N) : (cvs c N)[0 + j * 5 + 0]? = some (.int .i64 ((c j).1 : Int)) := by
 rw [Nat.zero_add, cvs_get (by decide) h]; rfl
theorem over_ints {w : List Int} {k : Nat} {z : Int} (h : k < w.length) : over (ints w) (k * 1) [.int .i64 z] = ints (w.set k z) := by
 rw [Nat.mul_one];have e : ints (w.set k z) = (ints w).set k (.int .i64 z) := by simp [ints, List.map_set]
 rw [e, List.set_eq_take_append_cons_drop, if_pos (by rw [ints_len]; exact h)];unfold over;simp
def Mvd (l w : List Int) (d : Int) (k : Nat) : Prop := w.length = l.length /\ ∀ i, i < k -> w.getD i 0 = l.getD i 0 + d
theorem Mvd.step {l w : List Int} {d : Int} {k : Nat} (h : Mvd l w d k) (hk : k < l.length) : Mvd l (w.set k (l.getD k 0 + d)) d (k + 1) := by
 refine ⟨by rw [List.length_set]; exact h.1, fun i hi => ?_⟩;by_cases q : k = i
 ·subst q
  rw [List.getD_eq_getElem?_getD, List.getElem?_set, if_pos rfl, if_pos (by rw [h.1]; exact hk)]; rfl
 ·rw [getD_set_ne q]; exact h.2 i (by omega)
def st0 (s : Fs) : Fs := ⟨s.x, s.c, -1⟩
def stl (ls : List (List Int)) (N : Nat) : Nat -> Fs
 | 0 => ⟨fun _ => 0, fun _ => (0, 0, 0, 0), -1⟩
 | r + 1 => lwS ls (st0 (stl ls N r)) N
section
variable {X : FuncId -> List Value -> St -> (Value -> St -> Bool) -> Bool}
theorem moved_s (n : Nat) (a : Option Addr) (cap : Nat) (l : List Int) (d : Int) (s : St) (hs : Wf s) (hn : 281474976710656 <= n) (hl : IntsE s a l) (hd : -1000000000000000 <= d /\ d <= 1000000000000000) (hb : ∀ i, i < l.length -> -1000000000000000 <= l.getD i 0 /\ l.getD i 0 <= 1000000000000000) (h64 : l.length <= 100000) : Spec Try.prog (tabK tabw) X (n + 400) 72 [.slice a l.length cap, .int .i64 d] s (fun v A => ∃ b w, v = .slice (some ⟨b, 0, none⟩) l.length l.length /\ A = [.row b 3 false (ints w)] /\ Mvd l w d l.length) := by
 refine enter bw72_at rfl hs ?_;unfold bw72;have hlen := hl.len;refine rS (kM J J (Q0 (rS (kM J J (kO J (a_lenx J hl.spot (kO J (a_mksI (m := 0) (c := l.length) J J (by omega) (by omega) (by omega) (fun b1 => (kM J J (Q0 (rQ (rS (kM J J (kO J (a_lenx J hl.spot (kM J J (Q0 (Y1 (Y5 (fun j e A => ∃ (k : Nat) (w : List Int), e = [(1, .int .i64 d), (5, .slice (some ⟨b1, 0, none⟩) k l.length), (11, .slice a l.length cap), (12, .int .i64 (l.length : Int)), (13, .int .i64 (k : Int))] /\ A = (.row b1 3 false (ints w) :: []) /\ j = l.length - k /\ k <= l.length /\ Mvd l w d k) 200 0 281474976710656 ?_ (j := _) (env2 := _) (A2 := _) ?_ ?_ ?_ ?_ ⟨0, List.replicate l.length 0, rfl, rfl, rfl, Nat.zero_le _, ⟨by simp, fun i hi => absurd hi (Nat.not_lt_zero i)⟩⟩))))))))))))))))))))
 rotate_left
 ·omega
 ·omega
 ·exact (lc 1 J (lc 5 J (lc 11 J (lc 12 J (lc 13 J Less.nil)))))
 ·exact (.q .slnil)
 rintro n hn j _ _ ⟨k, w, rfl, rfl, rfl, hk, hw⟩;have hwl := hw.1;refine rS (kO J (V5 J J (fun h2 => ?_) (fun h2 => ?_)))
 ·refine Q0 (rQ (Y0 J (Q1 (W0 (rQ (Y1 (rS (kO J (V7 (j := k) hl rfl rfl (by omega) (by first | rfl | omega) (by omega) (fun _ _ a3 => ?_))))))))))
  have hbk := hb k (by omega);refine kO J (Q7 J (hl.at a3 (by omega)) (kM J J (Q0 (rI (kM J J (kM J J (kM J J (kO J (V3 J J (by omega) (kO J (a_lit J J J (fun b4 => (kO J (a_appc J J (Src.own .here rfl (by simp)) (.next .here) (by rw [ints_len]; omega) (by omega) (by show _ < 18446744073709551616; omega) (by omega) (by omega) (kM J J (Q0 (U1 (W0 (rI (kO J (V3 J J (by omega) (kM J J (Q0 (W0 ?_))))))))))))))))))))))));exact ⟨rfl, _, _, _, (show l.length - (k + 1) < l.length - k by omega), (lc 1 J (lc 5 J (lc 11 J (lc 12 J (lc 13 J Less.nil))))), (.cons _ (.q .slnil)), ⟨k + 1, _, rfl, (by show [Ob.row _ _ _ (over (ints w) (k * 1) [.int .i64 _])] = _; rw [over_ints (by omega)]), rfl, by omega, (hw.step (by omega))⟩⟩
 ·refine Q0 (rQ (Z0 J (Q5 (Q3 (Q3 (Z3 (W0 (rS (kM J J (kM J J (Q0 (Y3 ?_))))))))))))
  have hkl : k = l.length := by omega
  subst hkl;exact end1A J (.q .slnil) ⟨_, w, rfl, rfl, hw⟩
end
def FT (op : Bool) (cp t : Nat) : Prop := (op = true /\ cp = OPEN) ∨ (op = false /\ cp = 1 /\ t = 0)
theorem tight_of {op : Bool} {cp t : Nat} (h : FT op cp t) : Tight op (t + 1) cp := by
 rcases h with h | ⟨h1, h2, rfl⟩
 ·exact .inl h
 ·exact .inr ⟨h1, h2, by decide⟩
theorem xs_zero {N : Nat} {ls : List (List Int)} : List.replicate N 0 = xs (stl ls N 0).x N := by
 refine List.ext_getElem? (fun j => ?_);unfold xs;rw [List.getElem?_replicate, List.getElem?_map];by_cases h : j < N
 ·rw [if_pos h, List.getElem?_range h]; rfl
 ·rw [if_neg h, List.getElem?_eq_none (by simp; omega)]; rfl
theorem rep_get {n i : Nat} : (List.replicate n (0 : Int)).getD i 0 = 0 := by
 rw [List.getD_eq_getElem?_getD, List.getElem?_replicate];split <;> rfl
theorem rep5 {N : Nat} : N * 5 = (repeatN [.int .i64 0, .bool false, .int .i64 0, .int .i64 0, .int .i64 0] N).length := by rw [cvs_zero, cvs_len]
theorem nam_of {ls : List (List Int)} {i v : Nat} {y0 y1 y2 y3 : Int} (h : nam (ls.getD i []) v) (hx : ls[i]? = some [y0, y1, y2, y3]) : y0 = (v : Int) ∨ y1 = (v : Int) := by
 rw [List.getD_eq_getElem?_getD, hx] at h; exact h
def cyl (c : Nat -> Nat × Nat × Nat × Int) (a : Nat) : Nat -> List Int
 | 0 => [((c a).1 : Int)]
 | m + 1 => cyl c a m ++ [((c (itr c a (m + 1))).1 : Int)]
theorem cyl_len {c : Nat -> Nat × Nat × Nat × Int} {a : Nat} : ∀ {m : Nat}, (cyl c a m).length = m + 1
 | 0 => rfl
 | m + 1 => by
  show (cyl c a m ++ _).length = _;rw [List.length_append, cyl_len]; rfl
def Rv (l w : List Int) (m i : Nat) : Prop := w.length = m + 1 /\ ∀ t, t <= m -> w.getD t 0 = if t < i ∨ m < t + i then l.getD (m - t) 0 else l.getD t 0
theorem Rv.zero {l : List Int} {m : Nat} (h : l.length = m + 1) : Rv l l m 0 := ⟨h, fun t ht => by rw [if_neg (by omega)]⟩
theorem getD_set {l : List Int} {i j : Nat} {v : Int} (h : i < l.length) : (l.set i v).getD j 0 = if i = j then v else l.getD j 0 := by
 by_cases q : i = j
 ·subst q
  rw [if_pos rfl, List.getD_eq_getElem?_getD, List.getElem?_set, if_pos rfl, if_pos h]; rfl
 ·rw [if_neg q, getD_set_ne q]
theorem Rv.step {l w : List Int} {m i : Nat} (h : Rv l w m i) (hi : i < m - i) : Rv l ((w.set i (w.getD (m - i) 0)).set (m - i) (w.getD i 0)) m (i + 1) := by
 obtain ⟨h1, h2⟩ := h;refine ⟨by rw [List.length_set, List.length_set]; exact h1, fun t ht => ?_⟩;rw [getD_set (by rw [List.length_set]; omega), getD_set (by omega)];have e1 := h2 i (by omega);have e2 := h2 (m - i) (by omega);have e3 := h2 t ht;rw [if_neg (by omega)] at e1 e2;by_cases q1 : m - i = t
 ·rw [if_pos q1, if_pos (by omega), e1]; congr 1; omega
 ·rw [if_neg q1]
  by_cases q2 : i = t
  ·subst q2
   rw [if_pos rfl, if_pos (by omega), e2]
  ·rw [if_neg q2, e3]
   by_cases q3 : t < i ∨ m < t + i
   ·rw [if_pos q3, if_pos (by omega)]
   ·rw [if_neg q3, if_neg (by omega)]
theorem snoc1 {w : List Int} {z : Int} : ints (w ++ [z]) = ints w ++ [.int .i64 z] := by simp [ints]
theorem nl_le {ls : List (List Int)} : ∀ (k v : Nat), (nl ls k v).length <= k
 | 0, _ => Nat.le_refl _
 | k + 1, v => by
  have := nl_le (ls := ls) k v;show (nl ls k v ++ _).length <= _;rw [List.length_append];split <;> simp <;> omega
structure SB (ls : List (List Int)) (N : Nat) : Prop where
 bd : ∀ r v q a, r < N -> v < N -> q <= (nl ls ls.length v).length -> a < N -> -100000000000000 <= (rwS ls (lwS ls (st0 (stl ls N r)) v) v q).x a /\ (rwS ls (lwS ls (st0 (stl ls N r)) v) v q).x a <= 100000000000000
 xb : ∀ r a, r <= N -> a < N -> -100000000000000 <= (stl ls N r).x a /\ (stl ls N r).x a <= 100000000000000
 par : ∀ a, a < N -> ((stl ls N N).c a).2.1 < N
 last : ∀ r, r < N -> (stl ls N (r + 1)).l = -1 ∨ ∃ u : Nat, u < N /\ (stl ls N (r + 1)).l = (u : Int)
section
variable {X : FuncId -> List Value -> St -> (Value -> St -> Bool) -> Bool}
theorem moved_n (n : Nat) (a : Option Addr) (cap nw : Nat) (l : List Int) (d : Int) (s : St) (hs : Wf s) (hn : 281474976710656 <= n) (hw : nw = l.length) (hl : IntsE s a l) (hd : -1000000000000000 <= d /\ d <= 1000000000000000) (hb : ∀ i, i < l.length -> -1000000000000000 <= l.getD i 0 /\ l.getD i 0 <= 1000000000000000) (h64 : l.length <= 100000) : Spec Try.prog (tabK tabw) X (n + 400) 72 [.slice a nw cap, .int .i64 d] s (fun v A => ∃ b w, v = .slice (some ⟨b, 0, none⟩) nw nw /\ A = [.row b 3 false (ints w)] /\ Mvd l w d l.length) := by
 subst hw;exact moved_s n a cap l d s hs hn hl hd hb h64
theorem sound_s (n : Nat) (M : Nat) (al : Option Addr) (cl : Nat) (ls : List (List Int)) (s : St) (hs : Wf s) (hn : 3377699720527872 <= n) (hL : RowsE s 4 al ls) (hM : M <= 64) (h400 : ls.length <= 400) (hlm : lmB (M : Int) ls = true) (hSB : SB ls (M + 1)) : Spec Try.prog (tabK tabw) X (n + 6000) 42 [.agg ⟨[.int .i64 (M : Int), .slice al ls.length cl]⟩] s (fun v A => ((∃ r, r < M + 1 /\ (stl ls (M + 1) (r + 1)).l = -1) /\ v = .bool true /\ A = []) ∨ ((∀ r, r < M + 1 -> ¬ (stl ls (M + 1) (r + 1)).l = -1) /\ v = .bool false /\ A = [])) := by
 refine enter bw42_at rfl hs ?_;unfold bw42;have hlen := hL.len;refine rS (kO J (a_box J J J (fun b1 => (kM J J (Q0 (rS (kO J (Z5 J (by decide) .here rfl (kO J (W5 J J (fun s1 h1 => newFlow_s _ M al cl ls s1 h1.wf (by omega) (hL.ext hs h1.2.1) hM h400 hlm) (fun v1 A1 q1 => ?_)))))))))));obtain ⟨bf2, bt3, bn4, O, B, rfl, rfl, hO⟩ := q1;rw [List.append_assoc, List.cons_append, List.cons_append, List.cons_append, List.nil_append];refine kG J J (a_inl J J bw51_at rfl ?_);unfold bw51;refine rS (kM J J (kM J J (Q0 (rS (kM J J (kO J (V4 J (kO J (Z2 J (kO J (Z2 J (kO J (Z1 J (.app .here) J (kO J (V3 J J (by omega) (kO J (a_mksI (m := M + 1) (c := M + 1) J J (by omega) (by omega) (by omega) (fun b5 => (kM J J (kO J (V4 J (kO J (Z2 J (kO J (Z2 J (kO J (Z1 J (.next (.app .here)) J (kO J (V3 J J (by omega) (kO J (a_mks5 (m := M + 1) (c := M + 1) J J (by omega) (by omega) (by omega) rep5 (fun b6 => (kM J J (kM J J (Q0 (rS (kM J J ?_)))))))))))))))))))))))))))))))))))));refine Q0 (rQ (rS (kM J J (kO J (V4 J (kO J (Z2 J (kO J (Z2 J (kO J (Z1 J (.next (.next (.app .here))) J (kO J (V3 J J (by omega) (kM J J (Q0 (Y1 ?_))))))))))))))));rw [xs_zero (ls := ls) (N := M + 1), cvs_zero (N := M + 1)];refine Y5 (fun j e A => ∃ (r : Nat), e = [(0, .pointer (some ⟨bf2, 0, none⟩)), (4, .slice (some ⟨b5, 0, none⟩) (M + 1) (M + 1)), (5, .slice (some ⟨b6, 0, none⟩) (M + 1) (M + 1)), (6, .int .i64 (stl ls (M + 1) r).l), (26, .int .i64 ((M : Int) + 1)), (27, .int .i64 (r : Int))] /\ A = (.row b6 115 false (cvs (stl ls (M + 1) r).c (M + 1)) :: (.row b5 3 false (ints (xs (stl ls (M + 1) r).x (M + 1))) :: (nobj B (nl ls ls.length) O ++ (.row bf2 93 false ([.int .i64 (M : Int), .slice al ls.length cl, .slice (some ⟨bt3, 0, none⟩) ls.length ls.length, .slice (some ⟨bn4, 0, none⟩) (M + 1) (M + 1)]) :: (.row bn4 25 false (nsl B (nl ls ls.length) (M + 1)) :: (.row bt3 3 false (ints (List.replicate ls.length 0)) :: (.row b1 29 false ([.int .i64 (M : Int), .slice al ls.length cl]) :: []))))))) /\ j = M + 1 - r /\ r <= M + 1 /\ ∀ k, k < r -> ¬ (stl ls (M + 1) (k + 1)).l = -1) 2000 1125899906842624 281474976710656 ?_ (j := _) (env2 := _) (A2 := _) ?_ ?_ ?_ ?_ ⟨0, rfl, rfl, rfl, Nat.zero_le _, (fun k hk => absurd hk (Nat.not_lt_zero k))⟩
 rotate_left
 ·omega
 ·omega
 ·exact (lc 0 J (lc 4 J (lc 5 J (lc 6 J (lc 26 J (lc 27 J Less.nil))))))
 ·exact (.q (.q (.r (.q (.q (.q (.q .slnil)))))))
 rintro n hn j _ _ ⟨r, rfl, rfl, rfl, hr, hne⟩;refine rS (kO J (V5 J J (fun h7 => ?_) (fun h7 => ?_)))
 ·refine Q0 (rQ (Y0 J (Q1 (W0 (rQ (Y1 (rS (kM J J (kM J J (kM J J (kG J J (a_inl J J bw63_at rfl ?_))))))))))))
  unfold bw63;refine rS (kO J (a_box J J J (fun b8 => (kO J (a_box J J J (fun b9 => (kM J J (Q0 (rS (kO J (a_new J J (fun b10 => (kZ J (a_st J J .here rfl rfl (Q0 (rQ (rS (kM J J (kO J (V4 J (kO J (Z2 J (kO J (Z2 J (kO J (Z1 J (.next (.next (.next (.next (.next (.app .here)))))) J (kO J (V3 J J (by omega) (kM J J (Q0 (Y1 ?_)))))))))))))))))))))))))))))));refine r_loopD (fun j e D A => ∃ (v : Nat) (qs : List Nat), qs = D /\ e = [(0, .pointer (some ⟨bf2, 0, none⟩)), (4, .pointer (some ⟨b8, 0, none⟩)), (5, .pointer (some ⟨b9, 0, none⟩)), (7, .pointer (some ⟨b10, 0, none⟩)), (16, .int .i64 ((M : Int) + 1)), (17, .int .i64 (v : Int))] /\ A = (qs.map Ob.dfr ++ (.row b10 3 false ([.int .i64 (lwS ls (st0 (stl ls (M + 1) r)) v).l]) :: (.row b9 97 false ([.slice (some ⟨b6, 0, none⟩) (M + 1) (M + 1)]) :: (.row b8 25 false ([.slice (some ⟨b5, 0, none⟩) (M + 1) (M + 1)]) :: (.row b6 115 false (cvs (lwS ls (st0 (stl ls (M + 1) r)) v).c (M + 1)) :: (.row b5 3 false (ints (xs (lwS ls (st0 (stl ls (M + 1) r)) v).x (M + 1))) :: (nobj B (nl ls ls.length) O ++ (.row bf2 93 false ([.int .i64 (M : Int), .slice al ls.length cl, .slice (some ⟨bt3, 0, none⟩) ls.length ls.length, .slice (some ⟨bn4, 0, none⟩) (M + 1) (M + 1)]) :: (.row bn4 25 false (nsl B (nl ls ls.length) (M + 1)) :: (.row bt3 3 false (ints (List.replicate ls.length 0)) :: (.row b1 29 false ([.int .i64 (M : Int), .slice al ls.length cl]) :: []))))))))))) /\ j = M + 1 - v /\ v <= M + 1) 1200 562949953421312 281474976710656 ?_ (j := _) (env2 := _) (A2 := _) ?_ ?_ ?_ ?_ ⟨0, [], rfl, rfl, rfl, rfl, Nat.zero_le _⟩
  rotate_left
  ·omega
  ·omega
  ·exact (lc 0 J (lc 4 J (lc 5 J (lc 7 J (lc 16 J (lc 17 J Less.nil))))))
  ·exact (.q (.q (.q (.q (.q (.r (.q (.q (.q (.q .slnil))))))))))
  rintro n hn j _ _ _ ⟨v, qs, rfl, rfl, rfl, rfl, hv⟩;have hnl9 := nl_le (ls := ls) ls.length v;refine rS (kO J (V5 J J (fun h11 => ?_) (fun h11 => ?_)))
  ·refine Q0 (rQ (Y0 J (Q1 (W0 (rQ (Y1 (rS (kM J J (kO J (a_new J J (fun b12 => (kZ J (a_st J J .here rfl rfl (Q0 (rQ (rS (kO J (Z1 J (.next (.app (.next (.next .here)))) J (kO J (Z1 J .here rfl (kO J (W4 (j := v) J J (by omega) (by omega) (kO J (U5 (x := ((lwS ls (st0 (stl ls (M + 1) r)) v).x) (v)) J (.next (.app (.next (.next (.next (.next .here)))))) (by rw [Q4]; omega) (U4 (by omega)) (kO J (a_eql J J (fun h13 => ?_) (fun h13 => ?_)))))))))))))))))))))))))))
   ·refine Q0 (Y0 J (Q5 (Q3 (Z3 (W0 (rI (kO J (V3 J J (by omega) (kM J J (Q0 (W0 ?_)))))))))))
    exact ⟨_, _, _, (show M + 1 - (v + 1) < M + 1 - v by omega), (lc 0 J (lc 4 J (lc 5 J (lc 7 J (lc 16 J (lc 17 J Less.nil)))))), (.cons _ (.r (.q (.q (.q (.q (.q (.r (.q (.q (.q (.q .slnil)))))))))))), ⟨v + 1, qs, rfl, rfl, (by rw [lws_free (by assumption)]), rfl, by omega⟩⟩
   ·refine Q0 (Z0 J (Q1 (W0 (rS (kM J J (kO J (Z1 J .here rfl (kG J J (a_inl J J bw79_at rfl ?_)))))))))
    unfold bw79;refine rS (kO J (a_box J J J (fun b14 => (kO J (a_box J J J (fun b15 => (kM J J (Q0 (rS (kO J (a_fn J J (kM J J (Q0 (Y3 (endD1 J .nil (Q0 (Y1 (r_rangeV J bw88_at rfl (fun q16 l17 LO18 BO19 hLO18 hBO19 => ?_)))))))))))))))))));unfold bw88;refine rS (kO J (Z1 J (.next (.next (.next .here))) J (kO J (V4 J (kO J (Z2 J (kO J (Z1 J (.next (.next (.next (.next (.next (.app (.next (.next (.next (.next (.next (.app .here)))))))))))) J (kO J (Z1 J (.next (.next .here)) J (kO J (W4 (j := v) J J (by omega) (by omega) (kO J (Z1 J (.next (.next (.next (.next (.next (.app (.next (.next (.next (.next (.next (.app (.next .here))))))))))))) (nsl_get (by omega)) (kO J (a_lenN J (kM J J (Q0 (Y1 ?_)))))))))))))))))));refine Y5 (fun j e A => ∃ (q : Nat), e = [(0, .func (.yield l17) ⟨[]⟩ ⟨[]⟩), (1, .pointer (some ⟨b14, 0, none⟩)), (2, .pointer (some ⟨b15, 0, none⟩)), (14, nsv B (nl ls ls.length) v), (15, .int .i64 ((nl ls ls.length v).length : Int)), (16, .int .i64 (q : Int))] /\ A = (LO18 :: (.dfr q16 :: (.row b15 3 false ([.int .i64 (v : Int)]) :: (.row b14 61 false ([.pointer (some ⟨bf2, 0, none⟩)]) :: (.row b12 3 false ([.int .i64 (v : Int)]) :: (qs.map Ob.dfr ++ (.row b10 3 false ([.int .i64 (rwS ls (lwS ls (st0 (stl ls (M + 1) r)) v) v q).l]) :: (.row b9 97 false ([.slice (some ⟨b6, 0, none⟩) (M + 1) (M + 1)]) :: (.row b8 25 false ([.slice (some ⟨b5, 0, none⟩) (M + 1) (M + 1)]) :: (.row b6 115 false (cvs (rwS ls (lwS ls (st0 (stl ls (M + 1) r)) v) v q).c (M + 1)) :: (.row b5 3 false (ints (xs (rwS ls (lwS ls (st0 (stl ls (M + 1) r)) v) v q).x (M + 1))) :: (nobj B (nl ls ls.length) O ++ (.row bf2 93 false ([.int .i64 (M : Int), .slice al ls.length cl, .slice (some ⟨bt3, 0, none⟩) ls.length ls.length, .slice (some ⟨bn4, 0, none⟩) (M + 1) (M + 1)]) :: (.row bn4 25 false (nsl B (nl ls ls.length) (M + 1)) :: (.row bt3 3 false (ints (List.replicate ls.length 0)) :: (.row b1 29 false ([.int .i64 (M : Int), .slice al ls.length cl]) :: [])))))))))))))))) /\ j = (nl ls ls.length v).length - q /\ q <= (nl ls ls.length v).length) 800 281474976710656 281474976710656 ?_ (j := _) (env2 := _) (A2 := _) ?_ ?_ ?_ ?_ ⟨0, rfl, rfl, rfl, Nat.zero_le _⟩
    rotate_left
    ·omega
    ·omega
    ·exact (lc 0 J (lc 1 J (lc 2 J (lc 14 J (lc 15 J (lc 16 J Less.nil))))))
    ·exact (.q (.q (.q (.q (.q (.r (.q (.q (.q (.q (.q (.r (.q (.q (.q (.q .slnil))))))))))))))))
    rintro n hn j _ _ ⟨q, rfl, rfl, rfl, hq⟩;refine rS (kO J (V5 J J (fun h20 => ?_) (fun h20 => ?_)))
    ·have hq9 : q < (nl ls ls.length v).length := by omega
     obtain ⟨li, hi0, hil, hnam⟩ := nl_mem hq9;obtain ⟨q4, o4, y0, y1, y2, y3, ahL, hx, hat, i0, i1, i2, i3⟩ := hL.row4 (k := li) (by omega);have hat2 := hat;obtain ⟨d0, d1, d2, d3, _⟩ := hat2;have := i0.lo; have := i0.hi;have := i1.lo; have := i1.hi;have := i2.lo; have := i2.hi;have := i3.lo; have := i3.hi;have hc4 := lmB_at hlm hx;have hnm := nam_of hnam hx;obtain ⟨u0, rfl⟩ : ∃ q : Nat, y0 = (q : Int) := ⟨y0.toNat, by omega⟩;obtain ⟨u1, rfl⟩ : ∃ q : Nat, y1 = (q : Int) := ⟨y1.toNat, by omega⟩;refine Q0 (rQ (Y0 J (Q1 (W0 (rQ (Y1 (rS (kO J (a_iaN (j := q) J J (by omega) (by omega) (kO J (U5 (x := (li : Int)) J (.next (.next (.next (.next (.next (.app (.next (.next (.next (.next (.next (own_nobj ((hO.2 _ (by omega)).2 (fun e => by rw [e] at hq9; exact absurd hq9 (Nat.not_lt_zero _))))))))))))))) (by omega) hi0 (kM J J (Q0 (rS (kO J (Z1 J (.next (.next (.next .here))) J (kO J (V4 J (kO J (Z2 J (kO J (Z2 J (kO J (Z1 J (.next (.next (.next (.next (.next (.app (.next (.next (.next (.next (.next (.app .here)))))))))))) J (kM J J (kO J (a_iaA (j := li) ahL rfl rfl (by first | rfl | omega) (by first | decide | omega) (kO J (a_ldar J (by decide) (by assumption) J (kO J (a_new J J (fun b21 => (kZ J (V6 J J .here rfl rfl rfl rfl (Q0 ?_)))))))))))))))))))))))))))))))))));refine rS (kM J J (kO J (Z1 J (.next (.next (.next .here))) J (kO J (Z2 J (kO J (Z1 J .here rfl (kO J (Z2 J (kO J (Z1 J .here rfl (kO J (Y7 J J (kO J (a_new J J (fun b22 => (kZ J (V6 J J .here rfl rfl rfl rfl (Q0 (rQ (rS (kO J (Z2 J (kO J (Z1 J (.next .here) J (kO J (Z1 J (.next (.next (.next (.next .here)))) J (kO J (a_eql J J (fun h23 => ?_) (fun h23 => ?_))))))))))))))))))))))))))))))
     ·have hu1 : v = u1 := by omega
      subst hu1;have hb9 := hx;refine Q0 (Y0 J (rI (kM J J (kO J (Z1 J (.next (.next (.next (.next .here)))) J (kO J (Z2 J (kO J (Z1 J (.next .here) J (kO J (Z2 J (kO J (Z1 J (.next .here) J (kO J (a_neg J (by omega) (kO J (Y7 J J (kZ J (V6 J J .here rfl rfl rfl rfl (Q0 (W0 (rQ (rS (kO J (Z2 J (kO J (Z1 J .here rfl (kM J J (kG J J (Z1 J (.next (.next (.next (.next (.next .here))))) J (kG J J (V4 J (kG J J (Z2 J (kG J J (Z1 J (.next (.next (.next (.next (.next (.next (.next (.app (.next (.next (.next (.next (.next (.app .here)))))))))))))) J (kG J J (W3 J ?_))))))))))))))))))))))))))))))))))))));refine kG J J (W4 (j := li) J J (by omega) (by omega) (kG J J (U5 (x := 0) J (.next (.next (.next (.next (.next (.next (.next (.app (.next (.next (.next (.next (.next (.app (.next (.next .here)))))))))))))))) (by rw [List.length_replicate]; omega) rep_get (kG J J (a_eql J J (fun _ => (kO J (V2 J J J (Q0 (Y0 J (Q5 (Q3 (Z3 (W0 (rI (kO J (V3 J J (by omega) (kM J J (Q0 (W0 ?_))))))))))))))) (fun h => absurd h (by decide)))))));exact ⟨rfl, _, _, _, (show (nl ls ls.length v).length - (q + 1) < (nl ls ls.length v).length - q by omega), (lc 0 J (lc 1 J (lc 2 J (lc 14 J (lc 15 J (lc 16 J Less.nil)))))), (.cons _ (.cons _ (.q (.q (.q (.q (.q (.r (.q (.q (.q (.q (.q (.r (.q (.q (.q (.q .slnil)))))))))))))))))), ⟨q + 1, rfl, (by first | (rw [rws_back hi0 hb9]; done) | (rw [rws_less hi0 hx hnb9 hls9]; done) | (rw [rws_less hi0 hx hnb9 hls9]; rfl) | (rw [rws_more hi0 hx hgr9]; done)), rfl, by omega⟩⟩
     ·have hnb9 := h23
      refine Q0 (Z0 J (Q1 (W0 (rQ (rS (kO J (Z2 J (kO J (Z1 J .here rfl (kM J J (U0 J J (U0 J J (U0 J J (U0 J J (U0 J J (U0 J J (U0 J J (U0 J J (kO J (V1 J J J (Q0 (Z0 J (Q1 (W0 (rS (kM J J ?_))))))))))))))))))))))))));refine kO J (Z5 J (by decide) .here rfl (kG J J (a_yieldV J J hLO18 hBO19 (by simp) J J (rI (kO J (a_new J J (fun b25 => (kZ J (V6 J J .here rfl rfl rfl rfl (Q0 (⟨_, (.next (.next (.next .here))), (Y1 (rS (kO J (Z1 J (.next (.next (.next (.next (.next (.next (.next (.next (.app (.next (.next .here))))))))))) J (kO J (Z1 J (.next (.next (.next (.next (.next (.next (.next .here))))))) J (kO J (W4 (j := v) J J (by omega) (by omega) (kO J (U5 (x := ((rwS ls (lwS ls (st0 (stl ls (M + 1) r)) v) v q).x) (v)) J (.next (.next (.next (.next (.next (.next (.next (.next (.app (.next (.next (.next (.next .here))))))))))))) (by rw [Q4]; omega) (U4 (by omega)) (kO J (Z2 J (kO J (Z1 J .here rfl ?_))))))))))))))⟩)))))))))));have hb1 := hSB.bd r v q v (by omega) (by omega) (by omega) (by omega);refine kO J (V3 J J (by omega) (kM J J (Q0 (rS (kM J J (kO J (Z1 J (.next (.next (.next (.next (.next (.next (.next (.next (.app (.next (.next .here))))))))))) J (kO J (Z2 J (kO J (Z1 J .here rfl (kO J (W4 (j := u1) J J (by omega) (by omega) (kO J (U5 (x := ((rwS ls (lwS ls (st0 (stl ls (M + 1) r)) v) v q).x) (u1)) J (.next (.next (.next (.next (.next (.next (.next (.next (.app (.next (.next (.next (.next .here))))))))))))) (by rw [Q4]; omega) (U4 (by omega)) (kO J (V5 J J (fun h26 => ?_) (fun h26 => ?_))))))))))))))))))
      ·have hls9 := h26
       refine Q0 (Y0 J (rI (kO J (Z1 J (.next (.next (.next (.next (.next (.next (.next (.next (.app (.next (.next .here))))))))))) J (kO J (Z2 J (kO J (Z1 J .here rfl (kO J (Z1 J (.next (.next (.next (.next (.next (.next (.next (.next (.app (.next .here)))))))))) J (kO J (Z2 J (kO J (Z1 J .here rfl (kM J J (kO J (Z5 J (by decide) .here rfl (kO J (Z2 J (kO J (Z1 J .here rfl (kO J (W4 (j := u1) J J (by omega) (by omega) (kZ J (Q8 J J (by rw [xs_set]; exact (.next (.next (.next (.next (.next (.next (.next (.next (.app (.next (.next (.next (.next .here)))))))))))))) (by rw [Q4]; omega) (kZ J (a_again J J .here rfl (by simp [eqV, eqA, eqL, kindEq, intEq_eq, U6 hL.spot]) (kZ J (a_againa J J (by decide) .here rfl (by simp [eqL, eqV, eqA, kindEq, intEq_eq, U6 hL.spot]) (kZ J (a_again J J .here rfl (by simp [eqV, eqA, eqL, kindEq, intEq_eq, U6 hL.spot]) (kZ J (a_again J J (.next (.next (.next (.next (.next (.next (.next (.next (.app (.next .here)))))))))) J (by simp [eqV, eqA, eqL, kindEq, intEq_eq, U6 hL.spot]) (kO J (W4 (j := u1) J J (by omega) (by omega) (kZ J (V6 J J (.next (.next (.next (.next (.next (.next (.next (.next (.app (.next (.next (.next .here)))))))))))) (cam_over (p := (_, _, _, _)) (by omega)) (by rw [Nat.ble_eq, cvs_len]; omega) J J (kZ J (a_again J J .here rfl (by simp [eqV, eqA, eqL, kindEq, intEq_eq, U6 hL.spot]) (kZ J (a_st J J (.next (.next (.next (.next (.next (.next (.next (.next (.app .here))))))))) J J (Q0 ?_))))))))))))))))))))))))))))))))))))))))));refine U1 (⟨_, (.next (.next (.next .here))), (kO J (Z7 J (Q0 (Z0 J (Q1 (U1 (W0 (rI (kO J (V3 J J (by omega) (kM J J (Q0 (W0 ?_)))))))))))))⟩);exact ⟨rfl, _, _, _, (show (nl ls ls.length v).length - (q + 1) < (nl ls ls.length v).length - q by omega), (lc 0 J (lc 1 J (lc 2 J (lc 14 J (lc 15 J (lc 16 J Less.nil)))))), (.cons _ (.cons _ (.cons _ (.q (.q (.q (.q (.q (.r (.q (.q (.q (.q (.q (.r (.q (.q (.q (.q .slnil))))))))))))))))))), ⟨q + 1, rfl, (by first | (rw [rws_back hi0 hb9]; done) | (rw [rws_less hi0 hx hnb9 hls9]; done) | (rw [rws_less hi0 hx hnb9 hls9]; rfl) | (rw [rws_more hi0 hx hgr9]; done)), rfl, by omega⟩⟩
      ·have hgr9 := h26
       refine Q0 (Z0 J (Q1 (U1 (⟨_, (.next (.next (.next .here))), (kO J (Z7 J (Q0 (Z0 J (Q1 (U1 (W0 (rI (kO J (V3 J J (by omega) (kM J J (Q0 (W0 ?_)))))))))))))⟩))));exact ⟨rfl, _, _, _, (show (nl ls ls.length v).length - (q + 1) < (nl ls ls.length v).length - q by omega), (lc 0 J (lc 1 J (lc 2 J (lc 14 J (lc 15 J (lc 16 J Less.nil)))))), (.cons _ (.cons _ (.cons _ (.q (.q (.q (.q (.q (.r (.q (.q (.q (.q (.q (.r (.q (.q (.q (.q .slnil))))))))))))))))))), ⟨q + 1, rfl, (by first | (rw [rws_back hi0 hb9]; done) | (rw [rws_less hi0 hx hnb9 hls9]; done) | (rw [rws_less hi0 hx hnb9 hls9]; rfl) | (rw [rws_more hi0 hx hgr9]; done)), rfl, by omega⟩⟩
    ·have hql : q = (nl ls ls.length v).length := by omega
     subst hql;refine Q0 (rQ (Z0 J (Q5 (Q3 (Q3 (Z3 (endD0n .nil (.inl ⟨_, .here, (U1 (U1 (W0 (rI (kO J (V3 J J (by omega) (kM J J (Q0 (W0 ?_)))))))))⟩))))))));exact ⟨_, _, _, (show M + 1 - (v + 1) < M + 1 - v by omega), (lc 0 J (lc 4 J (lc 5 J (lc 7 J (lc 16 J (lc 17 J Less.nil)))))), (.q (.cons _ (.cons _ (.cons _ (.r (.q (.q (.q (.q (.q (.r (.q (.q (.q (.q .slnil))))))))))))))), ⟨v + 1, q16 :: qs, rfl, rfl, (by rw [lws_go (by assumption)]; rfl), rfl, by omega⟩⟩
  ·have hvN : v = M + 1 := by omega
   subst hvN;refine Q0 (rQ (Z0 J (Q5 (Q3 (Q3 (Z3 (W0 (rS (kO J (Z1 J (.app .here) J (kM J J (Q0 (Y3 (endD1 J deld_map (kM J J (Q0 (rS (kM J J (kO J (a_eql J J (fun h27 => ?_) (fun h27 => ?_)))))))))))))))))))))
   ·refine Q0 (Y0 J (rS (kM J J (kM J J (kO J (W4 (j := 0) J J (by omega) (by omega) (kO J (U5 (x := ((stl ls (M + 1) (r + 1)).x) (0)) J (.next (.next (.next (.next .here)))) (by rw [Q4]; omega) (U4 (by omega)) ?_))))))))
    have hb0 := hSB.xb (r + 1) 0 (by omega) (by omega);refine kO J (a_neg J (by omega) (kO J (W5 J J (fun s1 h1 => moved_n _ _ _ _ (xs (stl ls (M + 1) (r + 1)).x (M + 1)) _ s1 h1.wf (by omega) Q4.symm (IntsE.own (h1.own (.next (.next (.next (.next .here))))) (fun z hz => by obtain ⟨k, hk, rfl⟩ := List.mem_map.1 hz; have := hSB.xb (r + 1) k (by omega) (List.mem_range.1 hk); omega) (by rw [Q4]; omega)) (by omega) (fun i hi => by rw [Q4] at hi; rw [U4 hi]; have := hSB.xb (r + 1) i (by omega) hi; omega) (by rw [Q4]; omega)) (fun v1 A1 q1 => ?_))));obtain ⟨bm28, wm, rfl, rfl, hmv⟩ := q1;refine kM J J (kM J J (Q0 (Y3 (W7 (U3 (U3 (W7 (U3 (endD2 J J .nil (kM J J (kO J (Q2 J J (kO J (Q2 J J (kM J J (kM J J (Q0 (rS (kM J J (kO J (a_len0 J (kO J (a_eql J J (fun _ => (kM J J (Q0 (Y3 ?_)))) (fun h => absurd h (by decide)))))))))))))))))))))))))
    first
     | (exfalso; omega)
     | exact end1 J (.inl ⟨⟨r, by omega, by assumption⟩, rfl, rfl⟩)
   ·refine Q0 (Z0 J (Q1 (U1 (W0 (rI (kO J (V3 J J (by omega) (kM J J (Q0 (W0 ?_))))))))))
    exact ⟨rfl, _, _, _, (show M + 1 - (r + 1) < M + 1 - r by omega), (lc 0 J (lc 4 J (lc 5 J (lc 6 J (lc 26 J (lc 27 J Less.nil)))))), (.cons _ (.cons _ (.cons _ (.q (.q (.r (.q (.q (.q (.q .slnil)))))))))), ⟨r + 1, rfl, rfl, rfl, by omega, (fun k hk => by by_cases e : k = r; exact e ▸ (by assumption); exact hne k (by omega))⟩⟩
 ·have hrN : r = M + 1 := by omega
  subst hrN;have hne2 := hne;obtain ⟨l0, hl0, hle⟩ : ∃ u : Nat, u < M + 1 /\ (stl ls (M + 1) (M + 1)).l = (u : Int) := (hSB.last M (by omega)).resolve_left (hne M (by omega));rw [hle];obtain ⟨p, hp1, hp2, hp3⟩ := itr_back hSB.par hl0;have hat9 := itr_lt hSB.par hl0 (M + 1);refine Q0 (rQ (Z0 J (Q5 (Q3 (Q3 (Z3 (W0 (rS (kM J J (kM J J (kG J J (a_inl J J bw73_at rfl ?_))))))))))));unfold bw73;refine rS (kM J J (Q0 (rQ (rS (kM J J (kO J (a_len J (kM J J (Q0 (Y1 ?_))))))))));refine Y5 (fun j e A => ∃ (m : Nat), e = [(0, .slice (some ⟨b6, 0, none⟩) (M + 1) (M + 1)), (1, .int .i64 ((itr (stl ls (M + 1) (M + 1)).c l0 m : Nat) : Int)), (8, .int .i64 ((M + 1 : Nat) : Int)), (9, .int .i64 (m : Int))] /\ A = (.row b6 115 false (cvs (stl ls (M + 1) (M + 1)).c (M + 1)) :: (.row b5 3 false (ints (xs (stl ls (M + 1) (M + 1)).x (M + 1))) :: (nobj B (nl ls ls.length) O ++ (.row bf2 93 false ([.int .i64 (M : Int), .slice al ls.length cl, .slice (some ⟨bt3, 0, none⟩) ls.length ls.length, .slice (some ⟨bn4, 0, none⟩) (M + 1) (M + 1)]) :: (.row bn4 25 false (nsl B (nl ls ls.length) (M + 1)) :: (.row bt3 3 false (ints (List.replicate ls.length 0)) :: (.row b1 29 false ([.int .i64 (M : Int), .slice al ls.length cl]) :: []))))))) /\ j = M + 1 - m /\ m <= M + 1) 300 0 281474976710656 ?_ (j := _) (env2 := _) (A2 := _) ?_ ?_ ?_ ?_ ⟨0, rfl, rfl, rfl, Nat.zero_le _⟩
  rotate_left
  ·omega
  ·omega
  ·exact (lc 0 J (lc 1 J (lc 8 J (lc 9 J Less.nil))))
  ·exact (.q (.q (.r (.q (.q (.q (.q .slnil)))))))
  rintro n hn j _ _ ⟨m, rfl, rfl, rfl, hm⟩;have hit := itr_lt hSB.par hl0 m;refine rS (kO J (V5 J J (fun h30 => ?_) (fun h30 => ?_)))
  ·refine Q0 (rQ (Y0 J (Q1 (W0 (rQ (Y1 (rI (kM J J (kM J J (kO J (W4 (j := (itr (stl ls (M + 1) (M + 1)).c l0 m)) J J (by omega) (by omega) (kO J (Z2 J (kO J (Z1 J .here (cvs_from (by omega)) (kM J J (Q0 (U1 (W0 (rI (kO J (V3 J J (by omega) (kM J J (Q0 (W0 ?_)))))))))))))))))))))))))
   exact ⟨rfl, _, _, _, (show M + 1 - (m + 1) < M + 1 - m by omega), (lc 0 J (lc 1 J (lc 8 J (lc 9 J Less.nil)))), (.q (.q (.r (.q (.q (.q (.q .slnil))))))), ⟨m + 1, rfl, rfl, rfl, by omega⟩⟩
  ·have hmN : m = M + 1 := by omega
   subst hmN;refine Q0 (rQ (Z0 J (Q5 (Q3 (Q3 (Z3 (W0 (rS (kM J J (kM J J (kO J (W4 (j := (itr (stl ls (M + 1) (M + 1)).c l0 (M + 1))) J J (by omega) (by omega) (kO J (Z2 J (kO J (Z1 J .here (cvs_lim (by omega)) (kO J (a_lit J J J (fun b31 => (kM J J (Q0 (rQ (rS (kM J J (kM J J (kO J (W4 (j := (itr (stl ls (M + 1) (M + 1)).c l0 (M + 1))) J J (by omega) (by omega) (kO J (Z2 J (kO J (Z1 J (.next .here) (cvs_from (by omega)) ?_)))))))))))))))))))))))))))))));refine kM J J (Q0 (Y1 ?_));refine Y5 (fun j e A => ∃ (m b cp : Nat) (op : Bool), e = [(0, .slice (some ⟨b6, 0, none⟩) (M + 1) (M + 1)), (1, .int .i64 (((itr (stl ls (M + 1) (M + 1)).c l0 (M + 1)) : Nat) : Int)), (5, .slice (some ⟨b, 0, none⟩) (m + 1) cp), (6, .int .i64 ((itr (stl ls (M + 1) (M + 1)).c (itr (stl ls (M + 1) (M + 1)).c l0 (M + 1)) (m + 1) : Nat) : Int))] /\ A = (.row b 3 op (ints (cyl (stl ls (M + 1) (M + 1)).c (itr (stl ls (M + 1) (M + 1)).c l0 (M + 1)) m)) :: (.row b6 115 false (cvs (stl ls (M + 1) (M + 1)).c (M + 1)) :: (.row b5 3 false (ints (xs (stl ls (M + 1) (M + 1)).x (M + 1))) :: (nobj B (nl ls ls.length) O ++ (.row bf2 93 false ([.int .i64 (M : Int), .slice al ls.length cl, .slice (some ⟨bt3, 0, none⟩) ls.length ls.length, .slice (some ⟨bn4, 0, none⟩) (M + 1) (M + 1)]) :: (.row bn4 25 false (nsl B (nl ls ls.length) (M + 1)) :: (.row bt3 3 false (ints (List.replicate ls.length 0)) :: (.row b1 29 false ([.int .i64 (M : Int), .slice al ls.length cl]) :: [])))))))) /\ j = p - m /\ m + 1 <= p /\ FT op cp m) 400 0 281474976710656 ?_ (j := _) (env2 := _) (A2 := _) ?_ ?_ ?_ ?_ ⟨0, b31, 1, false, rfl, rfl, rfl, (by omega), (.inr ⟨rfl, rfl, rfl⟩)⟩
   rotate_left
   ·omega
   ·omega
   ·exact (lc 0 J (lc 1 J (lc 5 J (lc 6 J Less.nil))))
   ·exact (.q (.q (.q (.r (.q (.q (.q (.q .slnil))))))))
   rintro n hn j _ _ ⟨m, b, cp, op, rfl, rfl, rfl, hm, hT⟩;have hit := itr_lt hSB.par hat9 (m + 1);refine rQ (rS (kM J J (kM J J (kO J (Y4 J J (fun h32 => ?_) (fun h32 => ?_))))))
   ·have hmp : ¬ m + 1 = p := fun e => by (have e2 : itr (stl ls (M + 1) (M + 1)).c (itr (stl ls (M + 1) (M + 1)).c l0 (M + 1)) (m + 1) = (itr (stl ls (M + 1) (M + 1)).c l0 (M + 1)) := by rw [e]; exact hp3); omega
    refine Q0 (Y0 J (Q1 (W0 (rQ (Y1 (rI (kM J J (kM J J (kM J J (kO J (W4 (j := (itr (stl ls (M + 1) (M + 1)).c (itr (stl ls (M + 1) (M + 1)).c l0 (M + 1)) (m + 1))) J J (by omega) (by omega) (kO J (Z2 J (kO J (Z1 J (.next .here) (cvs_lim (by omega)) (kO J (a_lit J J J (fun b33 => (kO J (a_app J J (Src.own .here rfl (by simp)) (.next .here) (by rw [ints_len, cyl_len, Nat.mul_one]) (tight_of hT) (by decide) (by omega) (by omega) (fun b34 => (kM J J (Q0 (U1 (W0 (rI (kM J J (kM J J (kO J (W4 (j := (itr (stl ls (M + 1) (M + 1)).c (itr (stl ls (M + 1) (M + 1)).c l0 (M + 1)) (m + 1))) J J (by omega) (by omega) (kO J (Z2 J ?_))))))))))))))))))))))))))))))));refine kO J (Z1 J (.next (.next .here)) (cvs_from (by omega)) (kM J J (Q0 (W0 ?_))));exact ⟨rfl, _, _, _, (show p - (m + 1) < p - m by omega), (lc 0 J (lc 1 J (lc 5 J (lc 6 J Less.nil)))), (.q (.cons _ (.q (.q (.r (.q (.q (.q (.q .slnil))))))))), ⟨m + 1, b34, _, _, rfl, (by rw [show cyl (stl ls (M + 1) (M + 1)).c (itr (stl ls (M + 1) (M + 1)).c l0 (M + 1)) (m + 1) = cyl (stl ls (M + 1) (M + 1)).c (itr (stl ls (M + 1) (M + 1)).c l0 (M + 1)) m ++ [_] from rfl, snoc1]; first | done | rfl), rfl, by omega, (.inl ⟨rfl, rfl⟩)⟩⟩
   ·refine Q0 (Z0 J (Q5 (Q3 (Q3 (Z3 (W0 (rS (kM J J (kG J J (a_inl J J bw84_at rfl ?_))))))))))
    unfold bw84;refine rS (kM J J (kO J (a_len J (kO J (a_sub J J (by omega) (kM J J (kM J J (Q0 (Y1 ?_)))))))));refine Y5 (fun j e A => ∃ (i : Nat) (z : Int) (w2 : List Int), e = [(0, .slice (some ⟨b, 0, none⟩) (m + 1) cp), (2, .int .i64 (i : Int)), (3, .int .i64 z)] /\ A = (.row b 3 op (ints w2) :: (.row b6 115 false (cvs (stl ls (M + 1) (M + 1)).c (M + 1)) :: (.row b5 3 false (ints (xs (stl ls (M + 1) (M + 1)).x (M + 1))) :: (nobj B (nl ls ls.length) O ++ (.row bf2 93 false ([.int .i64 (M : Int), .slice al ls.length cl, .slice (some ⟨bt3, 0, none⟩) ls.length ls.length, .slice (some ⟨bn4, 0, none⟩) (M + 1) (M + 1)]) :: (.row bn4 25 false (nsl B (nl ls ls.length) (M + 1)) :: (.row bt3 3 false (ints (List.replicate ls.length 0)) :: (.row b1 29 false ([.int .i64 (M : Int), .slice al ls.length cl]) :: [])))))))) /\ j = m + 1 - i /\ i <= m + 1 /\ z = (m : Int) - (i : Int) /\ Rv (cyl (stl ls (M + 1) (M + 1)).c (itr (stl ls (M + 1) (M + 1)).c l0 (M + 1)) m) w2 m i) 200 0 281474976710656 ?_ (j := _) (env2 := _) (A2 := _) ?_ ?_ ?_ ?_ ⟨0, ((m + 1 : Nat) : Int) - 1, cyl (stl ls (M + 1) (M + 1)).c (itr (stl ls (M + 1) (M + 1)).c l0 (M + 1)) m, rfl, rfl, rfl, Nat.zero_le _, (by omega), (.zero cyl_len)⟩
    rotate_left
    ·omega
    ·omega
    ·exact (lc 0 J (lc 2 J (lc 3 J Less.nil)))
    ·exact (.q (.q (.q (.r (.q (.q (.q (.q .slnil))))))))
    rintro n hn j _ _ ⟨i, z, w2, rfl, rfl, rfl, hi, hz, hrv⟩;have hw2 := hrv.1;refine rQ (rS (kM J J (kM J J (kO J (V5 J J (fun h35 => ?_) (fun h35 => ?_))))))
    ·refine Q0 (Y0 J (Q1 (W0 (rQ (Y1 (rI (kM J J (kM J J (kM J J (kM J J (kM J J (kM J J (kO J (W4 (j := (m - i)) J J (by omega) (by omega) (kO J (a_ldI J .here (by first | omega | (simp; done) | (simp; omega)) (kM J J (kM J J (kO J (W4 (j := i) J J (by omega) (by omega) (kO J (a_ldI J .here (by first | omega | (simp; done) | (simp; omega)) (kO J (W4 (j := i) J J (by omega) (by omega) (kZ J (Q8 J J .here (by first | omega | (simp; done) | (simp [wlen]; omega) | (simp; omega)) (kO J (W4 (j := (m - i)) J J (by omega) (by omega) (kZ J (Q8 J J .here (by first | omega | (simp; done) | (simp [wlen]; omega) | (simp; omega)) (Q0 ?_)))))))))))))))))))))))))))))))
     refine U1 (W0 (rI (kM J J (kO J (V3 J J (by omega) (kM J J (kO J (a_sub J J (by omega) (kM J J (kM J J (Q0 (W0 ?_))))))))))));exact ⟨rfl, _, _, _, (show m + 1 - (i + 1) < m + 1 - i by omega), (lc 0 J (lc 2 J (lc 3 J Less.nil))), (.q (.q (.q (.r (.q (.q (.q (.q .slnil)))))))), ⟨i + 1, z - 1, _, rfl, rfl, rfl, by omega, (by omega), (hrv.step (by omega))⟩⟩
    ·refine Q0 (Z0 J (Q5 (Q3 (Q3 (Z3 (endD0n .nil (Q0 (rS (kM J J (kM J J (Q0 (Y3 (endD1 J .nil (kM J J (kM J J (Q0 (Y3 (endD2 J J .nil (kM J J (kO J (Q2 J J (kO J (Q2 J J (kM J J (kM J J ?_)))))))))))))))))))))))))
     refine Q0 (rS (kM J J (kO J (a_len J (kO J (a_eql J J (fun h36 => ?_) (fun h36 => ?_)))))))
     ·refine kM J J (Q0 (Y3 ?_))
      first
       | (exfalso; omega)
       | exact end1 J (.inl ⟨⟨r, by omega, by assumption⟩, rfl, rfl⟩)
     ·refine kM J J (Q0 (Y3 ?_))
      first
       | (exact end1 J (.inr ⟨hne2, by rw [decide_eq_false (by omega)], rfl⟩))
       | (exact end1 J (.inr ⟨hne2, rfl, rfl⟩))
end
def Uns (ls : List (List Int)) (N : Nat) : Prop := ∀ r, r < N -> ¬ (stl ls N (r + 1)).l = -1
section
variable {X : FuncId -> List Value -> St -> (Value -> St -> Bool) -> Bool}
end
theorem lm_row {m : Int} {ls : List (List Int)} {k : Nat} (h : lmB m ls = true) (hk : k < ls.length) : ∃ (u0 u1 : Nat) (y2 y3 : Int), ls[k]? = some [(u0 : Int), (u1 : Int), y2, y3] /\ ((u0 : Int) <= m /\ (u1 : Int) <= m /\ ¬ u0 = u1 /\ -20000 <= y2 /\ y2 <= 20000) := by
 have key : ∀ (ls : List (List Int)) (k : Nat), lmB m ls = true -> k < ls.length -> ∃ y0 y1 y2 y3, ls[k]? = some [y0, y1, y2, y3] := by
  intro ls
  induction ls with
  | nil => intro k _ hk; exact absurd hk (Nat.not_lt_zero k)
  | cons r ls ih =>
   intro k h hk;unfold lmB at h;split at h
   ·rename_i h2; cases h2
   ·rename_i h2
    cases h2;rw [Bool.and_eq_true] at h;cases k with
    | zero => exact ⟨_, _, _, _, rfl⟩
    | succ k => exact ih k h.2 (by simpa using hk)
   ·cases h
 obtain ⟨y0, y1, y2, y3, e⟩ := key ls k h hk;have hc := lmB_at h e;obtain ⟨u0, rfl⟩ : ∃ q : Nat, y0 = (q : Int) := ⟨y0.toNat, by omega⟩;obtain ⟨u1, rfl⟩ : ∃ q : Nat, y1 = (q : Int) := ⟨y1.toNat, by omega⟩;exact ⟨u0, u1, y2, y3, e, by omega⟩
structure Iv (N : Nat) (b : Int) (s : Fs) : Prop where
 bd : ∀ a, a < N -> -b <= s.x a /\ s.x a <= 0
 par : ∀ a, a < N -> (s.c a).2.1 < N
 last : s.l = -1 ∨ ∃ u : Nat, u < N /\ s.l = (u : Int)
theorem Iv.mono {N : Nat} {b b' : Int} {s : Fs} (h : Iv N b s) (hb : b <= b') : Iv N b' s := ⟨fun a ha => by have := h.bd a ha; omega, h.par, h.last⟩
theorem Iv.rlx {ls : List (List Int)} {M f i : Nat} {b : Int} {s : Fs} (hl : lmB (M : Int) ls = true) (hi : i < ls.length) (hf : f < M + 1) (h : Iv (M + 1) b s) : Iv (M + 1) (b + 20000) (rlx ls s f i) := by
 obtain ⟨u0, u1, y2, y3, e, hc⟩ := lm_row hl hi;have e2 : ls.getD i [] = [(u0 : Int), (u1 : Int), y2, y3] := by rw [List.getD_eq_getElem?_getD, e]; rfl
 unfold Ev.rlx;rw [e2];show Iv (M + 1) (b + 20000) (if (u1 : Int) = (f : Int) then s else if s.x f + y2 < s.x (u1 : Int).toNat then ⟨W2 s.x (u1 : Int).toNat (s.x f + y2), W2 s.c (u1 : Int).toNat (i, f, (u1 : Int).toNat, y2), (u1 : Int)⟩ else s);rw [Int.toNat_natCast];split
 ·exact h.mono (by omega)
 ·split
  ·rename_i h1 h2
   have hb := h.bd f hf;have hb2 := h.bd u1 (by omega);refine ⟨fun a ha => ?_, fun a ha => ?_, .inr ⟨u1, by omega, rfl⟩⟩
   ·show -(b + 20000) <= W2 s.x u1 (s.x f + y2) a /\ W2 s.x u1 (s.x f + y2) a <= 0
    have := h.bd a ha;unfold W2;by_cases q : a = u1
    ·rw [if_pos q]; omega
    ·rw [if_neg q]; omega
   ·show (W2 s.c u1 (i, f, u1, y2) a).2.1 < M + 1
    unfold W2;by_cases q : a = u1
    ·rw [if_pos q]; exact hf
    ·rw [if_neg q]; exact h.par a ha
  ·exact h.mono (by omega)
theorem Iv.rws {ls : List (List Int)} {M f : Nat} {b : Int} {s : Fs} (hl : lmB (M : Int) ls = true) (hf : f < M + 1) (h : Iv (M + 1) b s) : ∀ {q : Nat}, q <= (nl ls ls.length f).length -> Iv (M + 1) (b + 20000 * (q : Int)) (rwS ls s f q)
 | 0, _ => h.mono (by omega)
 | q + 1, hq => by
  obtain ⟨i, h1, h2, _⟩ := nl_mem (ls := ls) (v := f) (k := ls.length) (q := q) (by omega);have := Iv.rlx (i := i) hl h2 hf (Iv.rws hl hf h (q := q) (by omega));show Iv (M + 1) _ (Ev.rlx ls (rwS ls s f q) f ((nl ls ls.length f).getD q 0).toNat);rw [h1, Int.toNat_natCast];exact this.mono (by omega)
theorem Iv.lws {ls : List (List Int)} {M : Nat} {b : Int} {s : Fs} (hl : lmB (M : Int) ls = true) (h4 : ls.length <= 400) (h : Iv (M + 1) b s) : ∀ {v : Nat}, v <= M + 1 -> Iv (M + 1) (b + 8000000 * (v : Int)) (lwS ls s v)
 | 0, _ => h.mono (by omega)
 | v + 1, hv => by
  have ih := Iv.lws hl h4 h (v := v) (by omega);show Iv (M + 1) _ (if (lwS ls s v).x v = 1000000000 then lwS ls s v else rwS ls (lwS ls s v) v (nl ls ls.length v).length);have hn := nl_le (ls := ls) ls.length v;split
  ·exact ih.mono (by omega)
  ·exact (Iv.rws hl (by omega) ih (Nat.le_refl _)).mono (by omega)
theorem Iv.st0 {N : Nat} {b : Int} {s : Fs} (h : Iv N b s) : Iv N b (st0 s) := ⟨h.bd, h.par, .inl rfl⟩
theorem Iv.stl {ls : List (List Int)} {M : Nat} (hl : lmB (M : Int) ls = true) (h4 : ls.length <= 400) (hM : M <= 64) : ∀ {r : Nat}, r <= M + 1 -> Iv (M + 1) (520000000 * (r : Int)) (stl ls (M + 1) r)
 | 0, _ => ⟨fun a _ => ⟨by show _ <= (0 : Int); omega, by show (0 : Int) <= 0; omega⟩, fun a _ => Nat.succ_pos M, .inl rfl⟩
 | r + 1, hr => (Iv.lws hl h4 (Iv.st0 (Iv.stl hl h4 hM (r := r) (by omega))) (v := M + 1) (Nat.le_refl _)).mono (by omega)
theorem sb_of {ls : List (List Int)} {M : Nat} (hl : lmB (M : Int) ls = true) (h4 : ls.length <= 400) (hM : M <= 64) : SB ls (M + 1) := by
 refine ⟨fun r v q a hr hv hq ha => ?_, fun r a hr ha => ?_, fun a ha => (Iv.stl hl h4 hM (Nat.le_refl _)).par a ha, fun r hr => (Iv.stl hl h4 hM (r := r + 1) (by omega)).last⟩
 ·have h1 := Iv.st0 (Iv.stl hl h4 hM (r := r) (by omega))
  have h2 := Iv.rws hl hv (Iv.lws hl h4 h1 (v := v) (by omega)) hq;have h3 := h2.bd a ha;have hn := nl_le (ls := ls) ls.length v;omega
 ·have h3 := (Iv.stl hl h4 hM (r := r) (by omega)).bd a ha
  omega
section
variable {X : FuncId -> List Value -> St -> (Value -> St -> Bool) -> Bool}
end
end Ev
end Go.Proofs.Ytoeklhdklcpllaa
