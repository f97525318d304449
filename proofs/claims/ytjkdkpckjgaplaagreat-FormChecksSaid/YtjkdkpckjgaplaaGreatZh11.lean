import Derived.Test.YtjkdkpckjgaplaaGreatZh10
import Derived.Lib.SmallJoins
import Derived.OpenShut
import Derived.Deep.Slices
import Derived.Deep.Strs
import Derived.ProofKit
import Derived.Test.YtjkdkpckjgaplaaGreatZh09
set_option linter.unusedVariables false
set_option linter.unusedSimpArgs false
namespace Go.Proofs.YtjkdkpckjgaplaaGreat.Ev
open Go Go.RowKit Go.ChangeShapes Go.WideShapes Go.ChangeAt Go.Joins
set_option linter.unusedVariables false
noncomputable section
def I64 (z : Int) : Prop := -9223372036854775808 <= z /\ z < 9223372036854775808
theorem kJ {n : Int} (h : (Lit.int .i64 n).wf = true) : I64 n := by
 simp [Lit.wf, IntKind.min, IntKind.max, IntKind.signed, IntKind.bits] at h;unfold I64; omega
theorem BU {H : Type} {P : Program} : ∀ {ts : List TypeId} {ds : List (DataW H)} (_ : (DataW.weightsEach P ts ds).all (· <= reachBytes) = true) {j : Nat} {t : TypeId} {d : DataW H} (_ : ts[j]? = some t) (_ : ds[j]? = some d), ∀ x ∈ DataW.weights P t d, x <= reachBytes := by
 intro ts ds h j t d ht hd x hx;have := List.all_eq_true.1 h x (DataW.weights_mem_each ht hd x hx);simpa using this
theorem zS (b o k : Nat) : (⟨b, o, none⟩ : Addr).add k = ⟨b, o + k, none⟩ := by
 unfold Addr.add;by_cases h : k = 0
 ·subst h; simp
 ·simp [h]
def pI (H : Type) (P : Program) (enc : TypeId × Value -> H) (W : World) (e w : Nat) : Prop :=
 ∀ {base fuel : Nat} {sp : Nat -> Bool} {held : Bool} {cs : List Value} {x : DataW H × List MemPlace}, DataW.trod enc P W base sp held fuel e cs = some x -> ∃ l : List Int, cs = l.map (.int .i64) /\ l.length = w /\ ∀ z ∈ l, I64 z
theorem iZ {H : Type} {P : Program} {enc : TypeId × Value -> H} {W : World} {t : Nat} (ht : P.underlying t = some (.int .i64)) : pI H P enc W t 1 := by
 intro base fuel sp held cs x h;obtain ⟨z, e, _, w⟩ := DataW.trod_int ht h;exact ⟨[z], by simpa using e, rfl, by intro y hy; rw [List.mem_singleton.1 hy]; exact kJ w⟩
theorem zT {W : World} {b : Nat} : ∀ {r : List Int} {o : Nat}, (∀ j, j < r.length -> W.cell? ⟨b, o + j, none⟩ = (r.map (Value.int .i64))[j]?) -> oR (AG W) b o (r.map (Value.int .i64))
 | [], _, _ => trivial
 | z :: r, o, h => ⟨H8 (by simpa using h 0 sM) (VR.int _ _) rfl, zT (fun j hj => by have := h (j + 1) (by simp; omega); simpa [Nat.add_assoc, Nat.add_comm 1 j] using this)⟩
theorem Ez {H : Type} {P : Program} {enc : TypeId × Value -> H} {W : World} {t e w bytes : Nat} (ht : P.underlying t = some (.slice e)) (hc : P.cellsOf e = w) (hw : 0 < w) (hby : P.bytesOf e = bytes) (hb : 2 <= bytes) (hi : pI H P enc W e w) {a : Option Addr} {n cap fuel : Nat} (hv : NiceS W a n cap) {d : DataW H} {p : List MemPlace}
 (hf : DataW.trod enc P W 0 (fun _ => true) true fuel t [.slice a n cap] = some (d, p)) (hz : ∀ x ∈ DataW.weights P t d, x <= reachBytes) : ∃ rs : List (List Int), rs.length = n /\ RowsE (AG W) w a rs /\ rs.length * bytes <= 140737488355328 := by
 rcases Go.Deep.open_slice ht hf with ⟨hcs, _⟩ | ⟨a', l, c, m, fu, D, Pl, hcs, _, hl, hm, hmm, hd, hel⟩
 ·simp at hcs
  obtain ⟨rfl, rfl, rfl⟩ := hcs;exact ⟨[], rfl, ⟨hv.spot, fun h => absurd rfl h, fun _ _ h => (by cases h), sM, sM, sM⟩, sM⟩
 ·simp at hcs
  obtain ⟨rfl, rfl, rfl⟩ := hcs;have hml : n <= m := by rw [hmm]; split <;> omega
  have hch : ∀ i, ∃ y : List Int, i < n -> (y.length = w /\ ∀ z ∈ y, I64 z) /\ ∀ r, r < w -> W.cell? ((a'.add (i * w)).add r) = (y.map (Value.int .i64))[r]? := by
   intro i;by_cases hin : i < n
   ·obtain ⟨cs', h1, h2⟩ := hel i oM
    obtain ⟨y, rfl, hy, hz⟩ := hi h2;rw [hc] at h1;obtain ⟨_, _, h3⟩ := World.cells?_some h1;exact ⟨y, fun _ => ⟨⟨hy, hz⟩, h3⟩⟩
   ·exact ⟨[], fun h => absurd h hin⟩
  obtain ⟨Y, hY⟩ : ∃ Y : Nat -> List Int, ∀ i, i < n -> ((Y i).length = w /\ ∀ z ∈ Y i, I64 z) /\ ∀ r, r < w -> W.cell? ((a'.add (i * w)).add r) = ((Y i).map (Value.int .i64))[r]? := ⟨fun i => (hch i).choose, fun i => (hch i).choose_spec⟩;have hsp := hv.spot a' rfl;obtain ⟨b, off, spot⟩ := a';have hsp' : spot = none := hsp;subst hsp';have hbytes : n * bytes <= 140737488355328 := by
   simp only [Prod.mk.injEq] at hd;obtain ⟨rfl, _⟩ := hd;have := hz _ (by simp only [DataW.weights, ht]; exact List.mem_cons_self);rw [hby] at this;simp only [List.length_map, List.length_range, reachBytes] at this;have e1 : n + (m - n) = m := oM
   rw [e1] at this;exact Nat.le_trans (Nat.mul_le_mul_right _ hml) oM
  refine ⟨(List.range n).map Y, sM, ⟨hv.spot, fun _ => ⟨b, off, rfl⟩, ?_, ?_, ?_, ?_⟩, by simpa using hbytes⟩
  ·intro b' o' hbo i r hr
   cases hbo;rw [List.getElem?_map] at hr;obtain ⟨i', h1, rfl⟩ := Option.map_eq_some_iff.1 hr;obtain ⟨h2, h3⟩ := List.getElem?_eq_some_iff.1 h1;simp at h2 h3;subst h3;refine zT (fun j hj => ?_);have := (hY i h2).2 j (by rw [<- (hY i h2).1.1]; exact hj);rw [zS, zS] at this;exact this
  ·intro r hr
   obtain ⟨i, hi', rfl⟩ := List.mem_map.1 hr;exact (hY i (List.mem_range.1 hi')).1.1
  ·intro r hr x hx
   obtain ⟨i, hi', rfl⟩ := List.mem_map.1 hr;exact (hY i (List.mem_range.1 hi')).1.2 x hx
  ·simp
   have : n * 2 <= n * bytes := Nat.mul_le_mul_left _ hb;omega
end
end Go.Proofs.YtjkdkpckjgaplaaGreat.Ev
namespace Go.Proofs.YtjkdkpckjgaplaaGreat
open Go Go.RowKit
namespace Ev
theorem I64.lo {z : Int} (h : I64 z) : -9223372036854775808 <= z := h.1
theorem I64.hi {z : Int} (h : I64 z) : z < 9223372036854775808 := h.2
theorem RowsE.row7 {s : St} {a : Option Addr} {rs : List (List Int)} (h : RowsE s 7 a rs) {k : Nat} (hk : k < rs.length) : ∃ b o x0 x1 x2 x3 x4 x5 x6, a = some ⟨b, o, none⟩ /\ rs[k]? = some [x0, x1, x2, x3, x4, x5, x6] /\ oR s b (o + k * 7) [.int .i64 x0, .int .i64 x1, .int .i64 x2, .int .i64 x3, .int .i64 x4, .int .i64 x5, .int .i64 x6] /\ I64 x0 /\ I64 x1 /\ I64 x2 /\ I64 x3 /\ I64 x4 /\ I64 x5 /\ I64 x6 := by
 obtain ⟨b, o, r, h1, h2, h3, h4, h5⟩ := h.row hk;obtain ⟨x0, r1, rfl, g1⟩ := aU h3;obtain ⟨x1, r2, rfl, g2⟩ := aU g1;obtain ⟨x2, r3, rfl, g3⟩ := aU g2;obtain ⟨x3, r4, rfl, g4⟩ := aU g3;obtain ⟨x4, r5, rfl, g5⟩ := aU g4;obtain ⟨x5, r6, rfl, g6⟩ := aU g5;obtain ⟨x6, r7, rfl, g7⟩ := aU g6;have : r7 = [] := List.eq_nil_of_length_eq_zero g7;subst this;exact ⟨b, o, x0, x1, x2, x3, x4, x5, x6, h1, h2, h4, h5 x0 sM, h5 x1 sM, h5 x2 sM, h5 x3 sM, h5 x4 sM, h5 x5 sM, h5 x6 sM⟩
theorem RowsE.row6 {s : St} {a : Option Addr} {rs : List (List Int)} (h : RowsE s 6 a rs) {k : Nat} (hk : k < rs.length) : ∃ b o z0 z1 z2 z3 z4 z5, a = some ⟨b, o, none⟩ /\ rs[k]? = some [z0, z1, z2, z3, z4, z5] /\ oR s b (o + k * 6) [.int .i64 z0, .int .i64 z1, .int .i64 z2, .int .i64 z3, .int .i64 z4, .int .i64 z5] /\ I64 z0 /\ I64 z1 /\ I64 z2 /\ I64 z3 /\ I64 z4 /\ I64 z5 := by
 obtain ⟨b, o, r, h1, h2, h3, h4, h5⟩ := h.row hk;obtain ⟨z0, r1, rfl, g1⟩ := aU h3;obtain ⟨z1, r2, rfl, g2⟩ := aU g1;obtain ⟨z2, r3, rfl, g3⟩ := aU g2;obtain ⟨z3, r4, rfl, g4⟩ := aU g3;obtain ⟨z4, r5, rfl, g5⟩ := aU g4;obtain ⟨z5, r6, rfl, g6⟩ := aU g5;have : r6 = [] := List.eq_nil_of_length_eq_zero g6;subst this;exact ⟨b, o, z0, z1, z2, z3, z4, z5, h1, h2, h4, h5 z0 sM, h5 z1 sM, h5 z2 sM, h5 z3 sM, h5 z4 sM, h5 z5 sM⟩
def nW (m : Int) (n : Int) : List (List Int) -> Bool
 | [] => true
 | [x0, x1, x2, x3, x4, x5, x6] :: rs => decide ((1 <= x0 /\ x0 <= 99999) /\ (0 <= x1 /\ x1 <= m - 1) /\ (0 <= x2 /\ x2 <= n - 1) /\ (0 <= x4 /\ x4 <= 1000) /\ (0 <= x3 /\ x3 <= 20000 - x4) /\ (1 <= x5 /\ x5 <= 99) /\ (0 <= x6 /\ x6 <= 100000)) && nW m n rs
 | _ :: _ => false
theorem BV (m : Int) (n : Int) {rs : List (List Int)} {k : Nat} {x0 x1 x2 x3 x4 x5 x6 : Int} (h : rs[k]? = some [x0, x1, x2, x3, x4, x5, x6]) (hi : nW m n rs = nW m n (rs.drop k)) : nW m n rs = (decide ((1 <= x0 /\ x0 <= 99999) /\ (0 <= x1 /\ x1 <= m - 1) /\ (0 <= x2 /\ x2 <= n - 1) /\ (0 <= x4 /\ x4 <= 1000) /\ (0 <= x3 /\ x3 <= 20000 - x4) /\ (1 <= x5 /\ x5 <= 99) /\ (0 <= x6 /\ x6 <= 100000)) && nW m n (rs.drop (k + 1))) := by
 obtain ⟨hk, he⟩ := List.getElem?_eq_some_iff.1 h;rw [hi, List.drop_eq_getElem_cons hk, he]; rfl
theorem gB {m : Int} {n : Int} {rs : List (List Int)} {k : Nat} {x0 x1 x2 x3 x4 x5 x6 : Int} (h : rs[k]? = some [x0, x1, x2, x3, x4, x5, x6]) (hi : nW m n rs = nW m n (rs.drop k)) (hn : ¬ ((1 <= x0 /\ x0 <= 99999) /\ (0 <= x1 /\ x1 <= m - 1) /\ (0 <= x2 /\ x2 <= n - 1) /\ (0 <= x4 /\ x4 <= 1000) /\ (0 <= x3 /\ x3 <= 20000 - x4) /\ (1 <= x5 /\ x5 <= 99) /\ (0 <= x6 /\ x6 <= 100000))) : nW m n rs = false := by
 rw [BV m n h hi, decide_eq_false hn]; rfl
theorem BW {m : Int} {n : Int} {rs : List (List Int)} {k : Nat} {x0 x1 x2 x3 x4 x5 x6 : Int} (h : rs[k]? = some [x0, x1, x2, x3, x4, x5, x6]) (hi : nW m n rs = nW m n (rs.drop k)) (hn : (1 <= x0 /\ x0 <= 99999) /\ (0 <= x1 /\ x1 <= m - 1) /\ (0 <= x2 /\ x2 <= n - 1) /\ (0 <= x4 /\ x4 <= 1000) /\ (0 <= x3 /\ x3 <= 20000 - x4) /\ (1 <= x5 /\ x5 <= 99) /\ (0 <= x6 /\ x6 <= 100000)) : nW m n rs = nW m n (rs.drop (k + 1)) := by
 rw [BV m n h hi, decide_eq_true hn]; rfl
theorem EA {m : Int} {n : Int} {rs : List (List Int)} {k : Nat} (hi : nW m n rs = nW m n (rs.drop k)) (hk : rs.length <= k) : nW m n rs = true := by
 rw [hi, List.drop_eq_nil_of_le hk]; rfl
theorem lZ {m : Int} {n : Int} {x0 x1 x2 x3 x4 x5 x6 : Int} : ∀ {rs : List (List Int)} {k : Nat}, nW m n rs = true -> rs[k]? = some [x0, x1, x2, x3, x4, x5, x6] -> (1 <= x0 /\ x0 <= 99999) /\ (0 <= x1 /\ x1 <= m - 1) /\ (0 <= x2 /\ x2 <= n - 1) /\ (0 <= x4 /\ x4 <= 1000) /\ (0 <= x3 /\ x3 <= 20000 - x4) /\ (1 <= x5 /\ x5 <= 99) /\ (0 <= x6 /\ x6 <= 100000)
 | [], _, _, h => by simp at h
 | r :: rs, 0, h1, h => by
  simp only [List.getElem?_cons_zero, Option.some.injEq] at h;subst h;have h2 : (decide ((1 <= x0 /\ x0 <= 99999) /\ (0 <= x1 /\ x1 <= m - 1) /\ (0 <= x2 /\ x2 <= n - 1) /\ (0 <= x4 /\ x4 <= 1000) /\ (0 <= x3 /\ x3 <= 20000 - x4) /\ (1 <= x5 /\ x5 <= 99) /\ (0 <= x6 /\ x6 <= 100000)) && nW m n rs) = true := h1;rw [Bool.and_eq_true] at h2;exact of_decide_eq_true h2.1
 | r :: rs, k + 1, h1, h => by
  refine lZ (rs := rs) (k := k) ?_ (by simpa using h);unfold nW at h1;split at h1
  ·rename_i h2; cases h2
  ·rename_i h2; cases h2; rw [Bool.and_eq_true] at h1; exact h1.2
  ·cases h1
def mY : List (List Int) -> Bool
 | [] => true
 | [z0, z1, z2, z3, z4, z5] :: rs => decide ((1 <= z0 /\ z0 <= 99999) /\ (1 <= z1 /\ z1 <= 99) /\ (0 <= z2 /\ z2 <= z3 /\ z3 <= 100000) /\ (-1000 <= z4 /\ z4 <= z5 /\ z5 <= 1000)) && mY rs
 | _ :: _ => false
theorem BX  {rs : List (List Int)} {k : Nat} {z0 z1 z2 z3 z4 z5 : Int} (h : rs[k]? = some [z0, z1, z2, z3, z4, z5]) (hi : mY rs = mY (rs.drop k)) : mY rs = (decide ((1 <= z0 /\ z0 <= 99999) /\ (1 <= z1 /\ z1 <= 99) /\ (0 <= z2 /\ z2 <= z3 /\ z3 <= 100000) /\ (-1000 <= z4 /\ z4 <= z5 /\ z5 <= 1000)) && mY (rs.drop (k + 1))) := by
 obtain ⟨hk, he⟩ := List.getElem?_eq_some_iff.1 h;rw [hi, List.drop_eq_getElem_cons hk, he]; rfl
theorem gC  {rs : List (List Int)} {k : Nat} {z0 z1 z2 z3 z4 z5 : Int} (h : rs[k]? = some [z0, z1, z2, z3, z4, z5]) (hi : mY rs = mY (rs.drop k)) (hn : ¬ ((1 <= z0 /\ z0 <= 99999) /\ (1 <= z1 /\ z1 <= 99) /\ (0 <= z2 /\ z2 <= z3 /\ z3 <= 100000) /\ (-1000 <= z4 /\ z4 <= z5 /\ z5 <= 1000))) : mY rs = false := by
 rw [BX  h hi, decide_eq_false hn]; rfl
theorem BY  {rs : List (List Int)} {k : Nat} {z0 z1 z2 z3 z4 z5 : Int} (h : rs[k]? = some [z0, z1, z2, z3, z4, z5]) (hi : mY rs = mY (rs.drop k)) (hn : (1 <= z0 /\ z0 <= 99999) /\ (1 <= z1 /\ z1 <= 99) /\ (0 <= z2 /\ z2 <= z3 /\ z3 <= 100000) /\ (-1000 <= z4 /\ z4 <= z5 /\ z5 <= 1000)) : mY rs = mY (rs.drop (k + 1)) := by
 rw [BX  h hi, decide_eq_true hn]; rfl
theorem nX  {rs : List (List Int)} {k : Nat} (hi : mY rs = mY (rs.drop k)) (hk : rs.length <= k) : mY rs = true := by
 rw [hi, List.drop_eq_nil_of_le hk]; rfl
theorem qX  {z0 z1 z2 z3 z4 z5 : Int} : ∀ {rs : List (List Int)} {k : Nat}, mY rs = true -> rs[k]? = some [z0, z1, z2, z3, z4, z5] -> (1 <= z0 /\ z0 <= 99999) /\ (1 <= z1 /\ z1 <= 99) /\ (0 <= z2 /\ z2 <= z3 /\ z3 <= 100000) /\ (-1000 <= z4 /\ z4 <= z5 /\ z5 <= 1000)
 | [], _, _, h => by simp at h
 | r :: rs, 0, h1, h => by
  simp only [List.getElem?_cons_zero, Option.some.injEq] at h;subst h;have h2 : (decide ((1 <= z0 /\ z0 <= 99999) /\ (1 <= z1 /\ z1 <= 99) /\ (0 <= z2 /\ z2 <= z3 /\ z3 <= 100000) /\ (-1000 <= z4 /\ z4 <= z5 /\ z5 <= 1000)) && mY rs) = true := h1;rw [Bool.and_eq_true] at h2;exact of_decide_eq_true h2.1
 | r :: rs, k + 1, h1, h => by
  refine qX (rs := rs) (k := k) ?_ (by simpa using h);unfold mY at h1;split at h1
  ·rename_i h2; cases h2
  ·rename_i h2; cases h2; rw [Bool.and_eq_true] at h1; exact h1.2
  ·cases h1
def fO (sp : Prop) [Decidable sp] (l1 l2 : List Int) (rs cs : List (List Int)) : Int :=
 if sp then (if 60 < (rs.length : Int) ∨ 20 < (cs.length : Int) then 2 else if nW (l1.length : Int) (l2.length : Int) rs = true then (if mY cs = true then 0 else 32) else 31) else 30
section
variable {X : FuncId -> List Value -> St -> (Value -> St -> Bool) -> Bool}
theorem xR (n : Nat) (d r al up : Int) (a1 a2 : Option Addr) (c1 c2 : Nat) (l1 l2 : List Int) (x0 x1 x2 x3 x4 x5 x6 : Int) (s : St) (hs : Wf s) (hn : 562949953421312 <= n) (hl1 : aI s a1 l1) (hl2 : aI s a2 l2) : bW Tryz.prog (cA cH) X (n + 200) 86 [.agg ⟨[.int .i64 d, .int .i64 r, .slice a1 l1.length c1, .slice a2 l2.length c2, .int .i64 al, .int .i64 up]⟩, .agg ⟨[.int .i64 x0, .int .i64 x1, .int .i64 x2, .int .i64 x3, .int .i64 x4, .int .i64 x5, .int .i64 x6]⟩] s (fun v A => v = .int .i64 (if (1 <= x0 /\ x0 <= 99999) /\ (0 <= x1 /\ x1 <= (l1.length : Int) - 1) /\ (0 <= x2 /\ x2 <= (l2.length : Int) - 1) /\ (0 <= x4 /\ x4 <= 1000) /\ (0 <= x3 /\ x3 <= 20000 - x4) /\ (1 <= x5 /\ x5 <= 99) /\ (0 <= x6 /\ x6 <= 100000) then 0 else 31) /\ A = []) := by
 refine enter L0 rfl hs ?_;unfold K4;have hlen1 := hl1.len;have hlen2 := hl2.len;refine rS (kO J (bI J J J (fun b1 => (kO J (bI J J J (fun b2 => (kM J J (Q0 (rS (kO J (Q2 J (kO J (Y1 J .here rfl (kO J (bH J J (fun s1 h1 => nT _ _ s1 h1.wf) (fun h3 => ?_) (fun h3 => ?_))))))))))))))))
 ·refine kM J J (kG J J (V4 J dE .h1 J (kG J J (Q2 J (kG J J (Y1 J .here rfl (kG J J (Q2 J (kG J J (Y1 J .here rfl (kG J J (bH J J (fun s1 h1 => MW _ _ _ _ _ _ _ _ _ _ _ _ _ s1 h1.wf oM (hl1.ext hs h1.2.1) (hl2.ext hs h1.2.1)) (fun h4 => ?_) (fun h4 => ?_)))))))))))))
  ·refine kO J (W2 J J J (kM J J (kG J J (Q2 J (kG J J (Y1 J .here rfl (kG J J (bH J J (fun s1 h1 => fR _ _ _ _ s1 h1.wf) (fun h5 => ?_) (fun h5 => ?_)))))))))
   ·refine kO J (W2 J J J (kM J J (kG J J (Q2 J (kG J J (Y1 J .here rfl (kG J J (Q2 J (kG J J (Y1 J .here rfl (kG J J (bX J J oM (kG J J (bH J J (fun s1 h1 => fR _ _ _ _ s1 h1.wf) (fun h6 => ?_) (fun h6 => ?_)))))))))))))))
    ·refine kO J (W2 J J J (kM J J (kG J J (Q2 J (kG J J (Y1 J .here rfl (kG J J (bH J J (fun s1 h1 => fR _ _ _ _ s1 h1.wf) (fun h7 => ?_) (fun h7 => ?_)))))))))
     ·refine kO J (W2 J J J (kM J J (kG J J (Q2 J (kG J J (Y1 J .here rfl (kG J J (bH J J (fun s1 h1 => fR _ _ _ _ s1 h1.wf) (fun h8 => ?_) (fun h8 => ?_)))))))))
      ·refine kO J (W2 J J J (kM J J (Q0 (rQ (rS (kM J J (kO J (U6 J (Q0 (U0 J (Q1 (W0 (rS (kM J J (Q0 (V2 (aV J ⟨congrArg (Value.int .i64) ?_, rfl⟩)))))))))))))))))
       first | exact (if_pos oM).symm | exact (if_neg oM).symm
      ·refine kO J (W2 J J J (kM J J (Q0 (rQ (rS (kM J J (kO J (U6 J (Q0 (Y0 J (rS (kM J J (Q0 (V2 (W3 (aV J ⟨congrArg (Value.int .i64) ?_, rfl⟩))))))))))))))))
       first | exact (if_pos oM).symm | exact (if_neg oM).symm
     ·refine kO J (W2 J J J (kM J J (V0 J J (V0 J J (V0 J J (kO J (U1 J J J (kM J J (Q0 (rQ (rS (kM J J (kO J (U6 J (Q0 (Y0 J (rS (kM J J (Q0 (V2 (W3 (aV J ⟨congrArg (Value.int .i64) ?_, rfl⟩))))))))))))))))))))))
      first | exact (if_pos oM).symm | exact (if_neg oM).symm
    ·refine kO J (W2 J J J (kM J J (V0 J J (V0 J J (V0 J J (kO J (U1 J J J (kM J J (V0 J J (V0 J J (V0 J J (kO J (U1 J J J (kM J J (Q0 (rQ (rS (kM J J (kO J (U6 J (Q0 (Y0 J (rS (kM J J (Q0 (V2 (W3 ?_)))))))))))))))))))))))))))
     refine aV J ⟨congrArg (Value.int .i64) ?_, rfl⟩
     first | exact (if_pos oM).symm | exact (if_neg oM).symm
   ·refine kO J (W2 J J J (kM J J (V0 J J (V0 J J (V0 J J (V0 J J (V0 J J (V0 J J (kO J (U1 J J J (kM J J (V0 J J (V0 J J (V0 J J (kO J (U1 J J J (kM J J (V0 J J (V0 J J (V0 J J (kO J (U1 J J J (kM J J (Q0 (rQ (rS (kM J J ?_)))))))))))))))))))))))))))
    refine kO J (U6 J (Q0 (Y0 J (rS (kM J J (Q0 (V2 (W3 (aV J ⟨congrArg (Value.int .i64) ?_, rfl⟩)))))))))
    first | exact (if_pos oM).symm | exact (if_neg oM).symm
  ·refine kO J (W2 J J J (kM J J (V0 J J (V0 J J (V0 J J (kO J (U1 J J J (kM J J (V0 J J (V0 J J (V0 J J (V0 J J (V0 J J (V0 J J (kO J (U1 J J J (kM J J (V0 J J (V0 J J (V0 J J (kO J (U1 J J J (kM J J (V0 J J (V0 J J (V0 J J (kO J (U1 J J J ?_))))))))))))))))))))))))))))
   refine kM J J (Q0 (rQ (rS (kM J J (kO J (U6 J (Q0 (Y0 J (rS (kM J J (Q0 (V2 (W3 (aV J ⟨congrArg (Value.int .i64) ?_, rfl⟩))))))))))))))
   first | exact (if_pos oM).symm | exact (if_neg oM).symm
 ·refine kM J J (V0 J J (V0 J J (V0 J J (V0 J J (V0 J J (V0 J J (kO J (U1 J J J (kM J J (V0 J J (V0 J J (V0 J J (kO J (U1 J J J (kM J J (V0 J J (V0 J J (V0 J J (V0 J J (V0 J J (V0 J J (kO J (U1 J J J (kM J J (V0 J J (V0 J J ?_))))))))))))))))))))))))))
  refine V0 J J (kO J (U1 J J J (kM J J (V0 J J (V0 J J (V0 J J (kO J (U1 J J J (kM J J (Q0 (rQ (rS (kM J J (kO J (U6 J (Q0 (Y0 J (rS (kM J J (Q0 (V2 (W3 (aV J ⟨congrArg (Value.int .i64) ?_, rfl⟩)))))))))))))))))))))))
  first | exact (if_pos oM).symm | exact (if_neg oM).symm
theorem pJ (n : Nat) (d r al up : Int) (a1 a2 : Option Addr) (c1 c2 : Nat) (l1 l2 : List Int) (x0 x1 x2 x3 x4 x5 x6 : Int) (s : St) (hs : Wf s) (hn : 562949953421312 <= n) (hl1 : aI s a1 l1) (hl2 : aI s a2 l2) : bW Tryz.prog (cA cH) X (n + 200) 54 [.agg ⟨[.int .i64 d, .int .i64 r, .slice a1 l1.length c1, .slice a2 l2.length c2, .int .i64 al, .int .i64 up]⟩, .agg ⟨[.int .i64 x0, .int .i64 x1, .int .i64 x2, .int .i64 x3, .int .i64 x4, .int .i64 x5, .int .i64 x6]⟩] s (fun v A => v = .bool (decide ((1 <= x0 /\ x0 <= 99999) /\ (0 <= x1 /\ x1 <= (l1.length : Int) - 1) /\ (0 <= x2 /\ x2 <= (l2.length : Int) - 1) /\ (0 <= x4 /\ x4 <= 1000) /\ (0 <= x3 /\ x3 <= 20000 - x4) /\ (1 <= x5 /\ x5 <= 99) /\ (0 <= x6 /\ x6 <= 100000))) /\ A = []) := by
 refine enter LM rfl hs ?_;unfold KG;have hlen1 := hl1.len;have hlen2 := hl2.len;refine rS (kO J (bI J J J (fun b1 => (kO J (bI J J J (fun b2 => (kM J J (Q0 (rS (kO J (Q2 J (kO J (Y1 J .here rfl (kO J (bH J J (fun s1 h1 => qW _ _ _ _ s1 h1.wf) (fun h3 => ?_) (fun h3 => ?_))))))))))))))))
 ·refine kM J J (kG J J (Q2 J (kG J J (Y1 J .here rfl (kG J J (Q2 J (kG J J (Y1 J .h1 J (kG J J (aJ J hl1.spot (kG J J (bX J J oM (kG J J (bH J J (fun s1 h1 => qW _ _ _ _ s1 h1.wf) (fun h4 => ?_) (fun h4 => ?_)))))))))))))))
  ·refine kO J (W2 J J J (kM J J (kG J J (Q2 J (kG J J (Y1 J .here rfl (kG J J (Q2 J (kG J J (Y1 J .h1 J (kG J J (aJ J hl2.spot (kG J J (bX J J oM (kG J J (bH J J (fun s1 h1 => qW _ _ _ _ s1 h1.wf) (fun h5 => ?_) (fun h5 => ?_)))))))))))))))))
   ·refine kO J (W2 J J J (kM J J (kG J J (Q2 J (kG J J (Y1 J .here rfl (kG J J (bH J J (fun s1 h1 => qW _ _ _ _ s1 h1.wf) (fun h6 => ?_) (fun h6 => ?_)))))))))
    ·refine kO J (W2 J J J (kM J J (kG J J (Q2 J (kG J J (Y1 J .here rfl (kG J J (Q2 J (kG J J (Y1 J .here rfl (kG J J (bX J J oM (kG J J (bH J J (fun s1 h1 => qW _ _ _ _ s1 h1.wf) (fun h7 => ?_) (fun h7 => ?_)))))))))))))))
     ·refine kO J (W2 J J J (kM J J (kG J J (Q2 J (kG J J (Y1 J .here rfl (kG J J (bH J J (fun s1 h1 => qW _ _ _ _ s1 h1.wf) (fun h8 => ?_) (fun h8 => ?_)))))))))
      ·refine kO J (W2 J J J (kM J J (kG J J (Q2 J (kG J J (Y1 J .here rfl (kG J J (bH J J (fun s1 h1 => qW _ _ _ _ s1 h1.wf) (fun h9 => ?_) (fun h9 => ?_)))))))))
       ·refine kO J (W2 J J J (kM J J (Q0 (V2 (aV J ⟨congrArg Value.bool ?_, rfl⟩)))))
        first | exact (decide_eq_true oM).symm | exact (decide_eq_false oM).symm
       ·refine kO J (W2 J J J (kM J J (Q0 (V2 (aV J ⟨congrArg Value.bool ?_, rfl⟩)))))
        first | exact (decide_eq_true oM).symm | exact (decide_eq_false oM).symm
      ·refine kO J (W2 J J J (kM J J (V0 J J (V0 J J (V0 J J (kO J (U1 J J J (kM J J (Q0 (V2 (aV J ⟨congrArg Value.bool ?_, rfl⟩)))))))))))
       first | exact (decide_eq_true oM).symm | exact (decide_eq_false oM).symm
     ·refine kO J (W2 J J J (kM J J (V0 J J (V0 J J (V0 J J (kO J (U1 J J J (kM J J (V0 J J (V0 J J (V0 J J (kO J (U1 J J J (kM J J (Q0 (V2 (aV J ⟨congrArg Value.bool ?_, rfl⟩)))))))))))))))))
      first | exact (decide_eq_true oM).symm | exact (decide_eq_false oM).symm
    ·refine kO J (W2 J J J (kM J J (V0 J J (V0 J J (V0 J J (V0 J J (V0 J J (V0 J J (kO J (U1 J J J (kM J J (V0 J J (V0 J J (V0 J J (kO J (U1 J J J (kM J J (V0 J J (V0 J J (V0 J J (kO J (U1 J J J (kM J J (Q0 (V2 (aV J ⟨congrArg Value.bool ?_, rfl⟩))))))))))))))))))))))))))
     first | exact (decide_eq_true oM).symm | exact (decide_eq_false oM).symm
   ·refine kO J (W2 J J J (kM J J (V0 J J (V0 J J (V0 J J (kO J (U1 J J J (kM J J (V0 J J (V0 J J (V0 J J (V0 J J (V0 J J (V0 J J (kO J (U1 J J J (kM J J (V0 J J (V0 J J (V0 J J (kO J (U1 J J J (kM J J (V0 J J (V0 J J (V0 J J (kO J (U1 J J J ?_))))))))))))))))))))))))))))
    refine kM J J (Q0 (V2 (aV J ⟨congrArg Value.bool ?_, rfl⟩)))
    first | exact (decide_eq_true oM).symm | exact (decide_eq_false oM).symm
  ·refine kO J (W2 J J J (kM J J (V0 J J (V0 J J (V0 J J (V0 J J (V0 J J (V0 J J (V0 J J (kO J (U1 J J J (kM J J (V0 J J (V0 J J (V0 J J (kO J (U1 J J J (kM J J (V0 J J (V0 J J (V0 J J (V0 J J (V0 J J (V0 J J (kO J (U1 J J J (kM J J ?_)))))))))))))))))))))))))))
   refine V0 J J (V0 J J (V0 J J (kO J (U1 J J J (kM J J (V0 J J (V0 J J (V0 J J (kO J (U1 J J J (kM J J (Q0 (V2 (aV J ⟨congrArg Value.bool ?_, rfl⟩))))))))))))))
   first | exact (decide_eq_true oM).symm | exact (decide_eq_false oM).symm
 ·refine kM J J (V0 J J (V0 J J (V0 J J (V0 J J (V0 J J (V0 J J (V0 J J (kO J (U1 J J J (kM J J (V0 J J (V0 J J (V0 J J (V0 J J (V0 J J (V0 J J (V0 J J (kO J (U1 J J J (kM J J (V0 J J (V0 J J (V0 J J (kO J (U1 J J J (kM J J ?_))))))))))))))))))))))))))
  refine V0 J J (V0 J J (V0 J J (V0 J J (V0 J J (V0 J J (kO J (U1 J J J (kM J J (V0 J J (V0 J J (V0 J J (kO J (U1 J J J (kM J J (V0 J J (V0 J J (V0 J J (kO J (U1 J J J (kM J J (Q0 (V2 (aV J ⟨congrArg Value.bool ?_, rfl⟩)))))))))))))))))))))))
  first | exact (decide_eq_true oM).symm | exact (decide_eq_false oM).symm
theorem xS (n : Nat) (z0 z1 z2 z3 z4 z5 : Int) (s : St) (hs : Wf s) : bW Tryz.prog (cA cH) X (n + 100) 134 [.agg ⟨[.int .i64 z0, .int .i64 z1, .int .i64 z2, .int .i64 z3, .int .i64 z4, .int .i64 z5]⟩] s (fun v A => v = .int .i64 (if (1 <= z0 /\ z0 <= 99999) /\ (1 <= z1 /\ z1 <= 99) /\ (0 <= z2 /\ z2 <= z3 /\ z3 <= 100000) /\ (-1000 <= z4 /\ z4 <= z5 /\ z5 <= 1000) then 0 else 32) /\ A = []) := by
 refine enter HA rfl hs ?_;unfold DV;refine rS (kO J (bI J J J (fun b1 => (kM J J (Q0 (rS (kO J (Q2 J (kO J (Y1 J .here rfl (kO J (bH J J (fun s1 h1 => nT _ _ s1 h1.wf) (fun h2 => ?_) (fun h2 => ?_)))))))))))))
 ·refine kM J J (kG J J (Q2 J (kG J J (Y1 J .here rfl (kG J J (bH J J (fun s1 h1 => fR _ _ _ _ s1 h1.wf) (fun h3 => ?_) (fun h3 => ?_)))))))
  ·refine kO J (W2 J J J (kM J J (kG J J (Q2 J (kG J J (Y1 J .here rfl (kG J J (fG J J (fun h4 => ?_) (fun h4 => ?_)))))))))
   ·refine kO J (W2 J J J (kM J J (kG J J (Q2 J (kG J J (Y1 J .here rfl (kG J J (Q2 J (kG J J (Y1 J .here rfl (kG J J (fG J J (fun h5 => ?_) (fun h5 => ?_)))))))))))))
    ·refine kO J (W2 J J J (kM J J (kG J J (Q2 J (kG J J (Y1 J .here rfl (kG J J (fG J J (fun h6 => ?_) (fun h6 => ?_)))))))))
     ·refine kO J (W2 J J J (kM J J (kG J J (Q2 J (kG J J (Y1 J .here rfl (kG J J (fG J J (fun h7 => ?_) (fun h7 => ?_)))))))))
      ·refine kO J (W2 J J J (kM J J (kG J J (Q2 J (kG J J (Y1 J .here rfl (kG J J (Q2 J (kG J J (Y1 J .here rfl (kG J J (fG J J (fun h8 => ?_) (fun h8 => ?_)))))))))))))
       ·refine kO J (W2 J J J (kM J J (kG J J (Q2 J (kG J J (Y1 J .here rfl (kG J J (fG J J (fun h9 => ?_) (fun h9 => ?_)))))))))
        ·refine kO J (W2 J J J (kM J J (Q0 (rQ (rS (kM J J (kO J (U6 J (Q0 (U0 J (Q1 (W0 (rS (kM J J (Q0 (V2 (aV J ⟨congrArg (Value.int .i64) ?_, rfl⟩)))))))))))))))))
         first | exact (if_pos oM).symm | exact (if_neg oM).symm
        ·refine kO J (W2 J J J (kM J J (Q0 (rQ (rS (kM J J (kO J (U6 J (Q0 (Y0 J (rS (kM J J (Q0 (V2 (W3 (aV J ⟨congrArg (Value.int .i64) ?_, rfl⟩))))))))))))))))
         first | exact (if_pos oM).symm | exact (if_neg oM).symm
       ·refine kO J (W2 J J J (kM J J (V0 J J (V0 J J (V0 J J (kO J (U1 J J J (kM J J (Q0 (rQ (rS (kM J J (kO J (U6 J (Q0 (Y0 J (rS (kM J J (Q0 (V2 (W3 (aV J ⟨congrArg (Value.int .i64) ?_, rfl⟩))))))))))))))))))))))
        first | exact (if_pos oM).symm | exact (if_neg oM).symm
      ·refine kO J (W2 J J J (kM J J (V0 J J (V0 J J (V0 J J (V0 J J (V0 J J (kO J (U1 J J J (kM J J (V0 J J (V0 J J (V0 J J (kO J (U1 J J J (kM J J (Q0 (rQ (rS (kM J J (kO J (U6 J (Q0 (Y0 J (rS (kM J J (Q0 ?_)))))))))))))))))))))))))))
       refine V2 (W3 (aV J ⟨congrArg (Value.int .i64) ?_, rfl⟩))
       first | exact (if_pos oM).symm | exact (if_neg oM).symm
     ·refine kO J (W2 J J J (kM J J (V0 J J (V0 J J (V0 J J (kO J (U1 J J J (kM J J (V0 J J (V0 J J (V0 J J (V0 J J (V0 J J (kO J (U1 J J J (kM J J (V0 J J (V0 J J (V0 J J (kO J (U1 J J J (kM J J (Q0 (rQ (rS (kM J J (kO J (U6 J ?_))))))))))))))))))))))))))))
      refine Q0 (Y0 J (rS (kM J J (Q0 (V2 (W3 (aV J ⟨congrArg (Value.int .i64) ?_, rfl⟩)))))))
      first | exact (if_pos oM).symm | exact (if_neg oM).symm
    ·refine kO J (W2 J J J (kM J J (V0 J J (V0 J J (V0 J J (kO J (U1 J J J (kM J J (V0 J J (V0 J J (V0 J J (kO J (U1 J J J (kM J J (V0 J J (V0 J J (V0 J J (V0 J J (V0 J J (kO J (U1 J J J (kM J J (V0 J J (V0 J J (V0 J J (kO J (U1 J J J (kM J J ?_))))))))))))))))))))))))))))
     refine Q0 (rQ (rS (kM J J (kO J (U6 J (Q0 (Y0 J (rS (kM J J (Q0 (V2 (W3 (aV J ⟨congrArg (Value.int .i64) ?_, rfl⟩)))))))))))))
     first | exact (if_pos oM).symm | exact (if_neg oM).symm
   ·refine kO J (W2 J J J (kM J J (V0 J J (V0 J J (V0 J J (V0 J J (V0 J J (kO J (U1 J J J (kM J J (V0 J J (V0 J J (V0 J J (kO J (U1 J J J (kM J J (V0 J J (V0 J J (V0 J J (kO J (U1 J J J (kM J J (V0 J J (V0 J J (V0 J J (V0 J J (V0 J J ?_)))))))))))))))))))))))))))
    refine kO J (U1 J J J (kM J J (V0 J J (V0 J J (V0 J J (kO J (U1 J J J (kM J J (Q0 (rQ (rS (kM J J (kO J (U6 J (Q0 (Y0 J (rS (kM J J (Q0 (V2 (W3 (aV J ⟨congrArg (Value.int .i64) ?_, rfl⟩))))))))))))))))))))))
    first | exact (if_pos oM).symm | exact (if_neg oM).symm
  ·refine kO J (W2 J J J (kM J J (V0 J J (V0 J J (V0 J J (kO J (U1 J J J (kM J J (V0 J J (V0 J J (V0 J J (V0 J J (V0 J J (kO J (U1 J J J (kM J J (V0 J J (V0 J J (V0 J J (kO J (U1 J J J (kM J J (V0 J J (V0 J J (V0 J J (kO J (U1 J J J (kM J J ?_))))))))))))))))))))))))))))
   refine V0 J J (V0 J J (V0 J J (V0 J J (V0 J J (kO J (U1 J J J (kM J J (V0 J J (V0 J J (V0 J J (kO J (U1 J J J (kM J J (Q0 (rQ (rS (kM J J (kO J (U6 J (Q0 (Y0 J (rS (kM J J (Q0 (V2 (W3 ?_))))))))))))))))))))))))));refine aV J ⟨congrArg (Value.int .i64) ?_, rfl⟩
   first | exact (if_pos oM).symm | exact (if_neg oM).symm
 ·refine kM J J (V0 J J (V0 J J (V0 J J (kO J (U1 J J J (kM J J (V0 J J (V0 J J (V0 J J (kO J (U1 J J J (kM J J (V0 J J (V0 J J (V0 J J (V0 J J (V0 J J (kO J (U1 J J J (kM J J (V0 J J (V0 J J (V0 J J (kO J (U1 J J J (kM J J (V0 J J ?_)))))))))))))))))))))))))))
  refine V0 J J (V0 J J (kO J (U1 J J J (kM J J (V0 J J (V0 J J (V0 J J (V0 J J (V0 J J (kO J (U1 J J J (kM J J (V0 J J (V0 J J (V0 J J (kO J (U1 J J J (kM J J (Q0 (rQ (rS (kM J J (kO J (U6 J (Q0 (Y0 J (rS ?_)))))))))))))))))))))))))));refine kM J J (Q0 (V2 (W3 (aV J ⟨congrArg (Value.int .i64) ?_, rfl⟩))))
  first | exact (if_pos oM).symm | exact (if_neg oM).symm
theorem xU (n : Nat) (z0 z1 z2 z3 z4 z5 : Int) (s : St) (hs : Wf s) : bW Tryz.prog (cA cH) X (n + 100) 55 [.agg ⟨[.int .i64 z0, .int .i64 z1, .int .i64 z2, .int .i64 z3, .int .i64 z4, .int .i64 z5]⟩] s (fun v A => v = .bool (decide ((1 <= z0 /\ z0 <= 99999) /\ (1 <= z1 /\ z1 <= 99) /\ (0 <= z2 /\ z2 <= z3 /\ z3 <= 100000) /\ (-1000 <= z4 /\ z4 <= z5 /\ z5 <= 1000))) /\ A = []) := by
 refine enter LN rfl hs ?_;unfold KI;refine rS (kO J (bI J J J (fun b1 => (kM J J (Q0 (rS (kO J (Q2 J (kO J (Y1 J .here rfl (kO J (bH J J (fun s1 h1 => qW _ _ _ _ s1 h1.wf) (fun h2 => ?_) (fun h2 => ?_)))))))))))))
 ·refine kM J J (kG J J (Q2 J (kG J J (Y1 J .here rfl (kG J J (bH J J (fun s1 h1 => qW _ _ _ _ s1 h1.wf) (fun h3 => ?_) (fun h3 => ?_)))))))
  ·refine kO J (W2 J J J (kM J J (kG J J (Q2 J (kG J J (Y1 J .here rfl (kG J J (zO J J (fun h4 => ?_) (fun h4 => ?_)))))))))
   ·refine kO J (W2 J J J (kM J J (kG J J (Q2 J (kG J J (Y1 J .here rfl (kG J J (Q2 J (kG J J (Y1 J .here rfl (kG J J (fG J J (fun h5 => ?_) (fun h5 => ?_)))))))))))))
    ·refine kO J (W2 J J J (kM J J (kG J J (Q2 J (kG J J (Y1 J .here rfl (kG J J (fG J J (fun h6 => ?_) (fun h6 => ?_)))))))))
     ·refine kO J (W2 J J J (kM J J (kG J J (Q2 J (kG J J (Y1 J .here rfl (kG J J (zO J J (fun h7 => ?_) (fun h7 => ?_)))))))))
      ·refine kO J (W2 J J J (kM J J (kG J J (Q2 J (kG J J (Y1 J .here rfl (kG J J (Q2 J (kG J J (Y1 J .here rfl (kG J J (fG J J (fun h8 => ?_) (fun h8 => ?_)))))))))))))
       ·refine kO J (W2 J J J (kM J J (kG J J (Q2 J (kG J J (Y1 J .here rfl (kG J J (fG J J (fun h9 => ?_) (fun h9 => ?_)))))))))
        ·refine kO J (W2 J J J (kM J J (Q0 (V2 (aV J ⟨congrArg Value.bool ?_, rfl⟩)))))
         first | exact (decide_eq_true oM).symm | exact (decide_eq_false oM).symm
        ·refine kO J (W2 J J J (kM J J (Q0 (V2 (aV J ⟨congrArg Value.bool ?_, rfl⟩)))))
         first | exact (decide_eq_true oM).symm | exact (decide_eq_false oM).symm
       ·refine kO J (W2 J J J (kM J J (V0 J J (V0 J J (V0 J J (kO J (U1 J J J (kM J J (Q0 (V2 (aV J ⟨congrArg Value.bool ?_, rfl⟩)))))))))))
        first | exact (decide_eq_true oM).symm | exact (decide_eq_false oM).symm
      ·refine kO J (W2 J J J (kM J J (V0 J J (V0 J J (V0 J J (V0 J J (V0 J J (kO J (U1 J J J (kM J J (V0 J J (V0 J J (V0 J J (kO J (U1 J J J (kM J J (Q0 (V2 (aV J ⟨congrArg Value.bool ?_, rfl⟩)))))))))))))))))))
       first | exact (decide_eq_true oM).symm | exact (decide_eq_false oM).symm
     ·refine kO J (W2 J J J (kM J J (V0 J J (V0 J J (V0 J J (kO J (U1 J J J (kM J J (V0 J J (V0 J J (V0 J J (V0 J J (V0 J J (kO J (U1 J J J (kM J J (V0 J J (V0 J J (V0 J J (kO J (U1 J J J (kM J J (Q0 (V2 (aV J ⟨congrArg Value.bool ?_, rfl⟩)))))))))))))))))))))))))
      first | exact (decide_eq_true oM).symm | exact (decide_eq_false oM).symm
    ·refine kO J (W2 J J J (kM J J (V0 J J (V0 J J (V0 J J (kO J (U1 J J J (kM J J (V0 J J (V0 J J (V0 J J (kO J (U1 J J J (kM J J (V0 J J (V0 J J (V0 J J (V0 J J (V0 J J (kO J (U1 J J J (kM J J (V0 J J (V0 J J (V0 J J (kO J (U1 J J J (kM J J ?_))))))))))))))))))))))))))))
     refine Q0 (V2 (aV J ⟨congrArg Value.bool ?_, rfl⟩))
     first | exact (decide_eq_true oM).symm | exact (decide_eq_false oM).symm
   ·refine kO J (W2 J J J (kM J J (V0 J J (V0 J J (V0 J J (V0 J J (V0 J J (kO J (U1 J J J (kM J J (V0 J J (V0 J J (V0 J J (kO J (U1 J J J (kM J J (V0 J J (V0 J J (V0 J J (kO J (U1 J J J (kM J J (V0 J J (V0 J J (V0 J J (V0 J J (V0 J J ?_)))))))))))))))))))))))))))
    refine kO J (U1 J J J (kM J J (V0 J J (V0 J J (V0 J J (kO J (U1 J J J (kM J J (Q0 (V2 (aV J ⟨congrArg Value.bool ?_, rfl⟩)))))))))))
    first | exact (decide_eq_true oM).symm | exact (decide_eq_false oM).symm
  ·refine kO J (W2 J J J (kM J J (V0 J J (V0 J J (V0 J J (kO J (U1 J J J (kM J J (V0 J J (V0 J J (V0 J J (V0 J J (V0 J J (kO J (U1 J J J (kM J J (V0 J J (V0 J J (V0 J J (kO J (U1 J J J (kM J J (V0 J J (V0 J J (V0 J J (kO J (U1 J J J (kM J J ?_))))))))))))))))))))))))))))
   refine V0 J J (V0 J J (V0 J J (V0 J J (V0 J J (kO J (U1 J J J (kM J J (V0 J J (V0 J J (V0 J J (kO J (U1 J J J (kM J J (Q0 (V2 (aV J ⟨congrArg Value.bool ?_, rfl⟩))))))))))))))))
   first | exact (decide_eq_true oM).symm | exact (decide_eq_false oM).symm
 ·refine kM J J (V0 J J (V0 J J (V0 J J (kO J (U1 J J J (kM J J (V0 J J (V0 J J (V0 J J (kO J (U1 J J J (kM J J (V0 J J (V0 J J (V0 J J (V0 J J (V0 J J (kO J (U1 J J J (kM J J (V0 J J (V0 J J (V0 J J (kO J (U1 J J J (kM J J (V0 J J ?_)))))))))))))))))))))))))))
  refine V0 J J (V0 J J (kO J (U1 J J J (kM J J (V0 J J (V0 J J (V0 J J (V0 J J (V0 J J (kO J (U1 J J J (kM J J (V0 J J (V0 J J (V0 J J (kO J (U1 J J J (kM J J (Q0 (V2 (aV J ⟨congrArg Value.bool ?_, rfl⟩)))))))))))))))))))))
  first | exact (decide_eq_true oM).symm | exact (decide_eq_false oM).symm
theorem AH (n : Nat) (d r al up : Int) (a1 a2 : Option Addr) (c1 c2 : Nat) (l1 l2 : List Int) (a3 a4 : Option Addr) (c3 c4 : Nat) (rs cs : List (List Int)) (s : St) (hs : Wf s) (hn : 2251799813685248 <= n) (hl1 : aI s a1 l1) (hl2 : aI s a2 l2) (hr : RowsE s 7 a3 rs) (hc : RowsE s 6 a4 cs) : bW Tryz.prog (cA cH) X (n + 1900) 91 [.agg ⟨[.int .i64 d, .int .i64 r, .slice a1 l1.length c1, .slice a2 l2.length c2, .int .i64 al, .int .i64 up, .slice a3 rs.length c3, .slice a4 cs.length c4]⟩] s (fun v A => v = .int .i64 (fO ((1 <= d /\ d <= 99999) /\ (1 <= r /\ r <= 99999) /\ (0 <= al /\ al <= 100000) /\ (0 <= up /\ up <= 100000) /\ bA l1 l2 = true) l1 l2 rs cs) /\ A = []) := by
 refine enter L7 rfl hs ?_;unfold K9;have hlen1 := hl1.len;have hlen2 := hl2.len;have hlen3 := hr.len;have hlen4 := hc.len;refine rS (kO J (bI J J J (fun b1 => (kM J J (Q0 (rQ (rS (kO J (Q2 J (kO J (V4 J dE .here rfl (kO J (gL J J (fun s1 h1 => iY _ _ _ _ _ _ _ _ _ _ _ s1 h1.wf oM (hl1.ext hs h1.2.1) (hl2.ext hs h1.2.1)) (fun h2 => ?_) (fun h2 => ?_))))))))))))))
 ·have hsp := h2
  refine kM J J (Q0 (rS (kM J J (kO J (V3 J J (fun h => absurd h dE) (fun _ => (Q0 (U0 J (Q1 (W0 (rQ (rS (kO J (Q2 J (kO J (Y1 J .here rfl (kO J (aJ J (by first | exact hr.spot | exact hc.spot) (kO J (fP J J (fun h4 => ?_) (fun h4 => ?_)))))))))))))))))))))
  ·refine kM J J (V0 J J (V0 J J (V0 J J (V0 J J (kO J (W2 J J J (Q0 (Y0 J (rS (kM J J (Q0 (V2 (W3 (aV J ⟨congrArg (Value.int .i64) ?_, rfl⟩))))))))))))))
   unfold fO
   first
    | (rw [if_neg aM]; done)
    | (rw [if_pos hsp, if_pos oM]; done)
    | (rw [if_pos hsp, if_neg oM, gB hx hi aM]; rfl)
    | (rw [if_pos hsp, if_neg oM, gB hx hi oM]; rfl)
    | (rw [if_pos hsp, if_neg oM, hrd, gC hz hj aM]; rfl)
    | (rw [if_pos hsp, if_neg oM, hrd, gC hz hj oM]; rfl)
    | (rw [if_pos hsp, if_neg oM, hrd, nX hj oM]; rfl)
  ·refine kM J J (kG J J (Q2 J (kG J J (Y1 J .here rfl (kG J J (aJ J (by first | exact hr.spot | exact hc.spot) (kG J J (fP J J (fun h5 => ?_) (fun h5 => ?_)))))))))
   ·refine kO J (U1 J J J (Q0 (Y0 J (rS (kM J J (Q0 (V2 (W3 (aV J ⟨congrArg (Value.int .i64) ?_, rfl⟩)))))))))
    unfold fO
    first
     | (rw [if_neg aM]; done)
     | (rw [if_pos hsp, if_pos oM]; done)
     | (rw [if_pos hsp, if_neg oM, gB hx hi aM]; rfl)
     | (rw [if_pos hsp, if_neg oM, gB hx hi oM]; rfl)
     | (rw [if_pos hsp, if_neg oM, hrd, gC hz hj aM]; rfl)
     | (rw [if_pos hsp, if_neg oM, hrd, gC hz hj oM]; rfl)
     | (rw [if_pos hsp, if_neg oM, hrd, nX hj oM]; rfl)
   ·refine kO J (U1 J J J (Q0 (U0 J (Q1 (W0 (rQ (rS (kO J (Q2 J (kO J (Y1 J .here rfl (kO J (aJ J (by first | exact hr.spot | exact hc.spot) (kM J J (Q0 (W1 (U4 (fun j e A => ∃ (k : Nat), e = [(1, .pointer (some ⟨b1, 0, none⟩)), (27, .slice a3 rs.length c3), (28, .int .i64 (rs.length : Int)), (29, .int .i64 (k : Int))] /\ A = (.row b1 37 false ([.int .i64 d, .int .i64 r, .slice a1 l1.length c1, .slice a2 l2.length c2, .int .i64 al, .int .i64 up, .slice a3 rs.length c3, .slice a4 cs.length c4]) :: []) /\ j = rs.length - k /\ k <= rs.length /\ nW (l1.length : Int) (l2.length : Int) rs = nW (l1.length : Int) (l2.length : Int) (rs.drop k)) 400 844424930131968 281474976710656 ?_ (j := _) (env2 := _) (A2 := _) ?_ ?_ ?_ ?_ ⟨0, rfl, rfl, rfl, Nat.zero_le _, rfl⟩)))))))))))))))))
    rotate_left
    ·omega
    ·omega
    ·exact lL
    ·exact (.q .slnil)
    rintro n hn j _ _ ⟨k, rfl, rfl, rfl, hk, hi⟩;refine rS (kO J (W5 J J (fun h6 => ?_) (fun h6 => ?_)))
    ·obtain ⟨q7, o7, x0, x1, x2, x3, x4, x5, x6, ahr, hx, hat, i0, i1, i2, i3, i4, i5, i6⟩ := hr.row7 (k := k) oM
     have hat2 := hat;obtain ⟨d0, d1, d2, d3, d4, d5, d6, _⟩ := hat2;have := i0.lo; have := i0.hi;have := i1.lo; have := i1.hi;have := i2.lo; have := i2.hi;have := i3.lo; have := i3.hi;have := i4.lo; have := i4.hi;have := i5.lo; have := i5.hi;have := i6.lo; have := i6.hi;refine Q0 (rQ (Y0 J (Q1 (W0 (rQ (W1 (rS (kO J (bK ahr rfl rfl rfl (by first | decide | omega) (kO J (cV J dE aM J (kO J (bG J J (fun b7 => (kZ J (Q6 J J .here rfl rfl rfl rfl (Q0 (rS (kO J (Q2 J (kO J (V4 J dE .h1 J (kO J (V4 J dE .here rfl (kO J (gL J J (fun s1 h1 => xR _ _ _ _ _ _ _ _ _ _ _ _ _ _ _ _ _ _ s1 h1.wf oM (hl1.ext hs h1.2.1) (hl2.ext hs h1.2.1)) (fun h8 => ?_) (fun h8 => ?_)))))))))))))))))))))))))))
     ·refine kM J J (Q0 (rS (kM J J (kO J (V3 J J (fun h => absurd h dE) (fun _ => (Q0 (U0 J (Q1 (Z1 (W0 (rI (kO J (Y3 J J oM (kM J J (Q0 (W0 ?_)))))))))))))))))
      exact ⟨rfl, _, _, _, (show rs.length - (k + 1) < rs.length - k from oM), lL, (.cons _ (.q .slnil)), ⟨k + 1, rfl, rfl, rfl, oM, BW hx hi aM⟩⟩
     ·refine kM J J (Q0 (rS (kM J J (kO J (V3 J J (fun _ => (Q0 (Y0 J (rS (kM J J (kM J J (Q0 (V2 (Y6 (W3 (W3 (Y6 (W3 (aV J ⟨congrArg (Value.int .i64) ?_, rfl⟩)))))))))))))) (fun h => absurd h dE))))))
      unfold fO
      first
       | (rw [if_neg aM]; done)
       | (rw [if_pos hsp, if_pos oM]; done)
       | (rw [if_pos hsp, if_neg oM, gB hx hi aM]; rfl)
       | (rw [if_pos hsp, if_neg oM, gB hx hi oM]; rfl)
       | (rw [if_pos hsp, if_neg oM, hrd, gC hz hj aM]; rfl)
       | (rw [if_pos hsp, if_neg oM, hrd, gC hz hj oM]; rfl)
       | (rw [if_pos hsp, if_neg oM, hrd, nX hj oM]; rfl)
    ·have hrd := EA hi oM
     clear hi hk hn;refine Q0 (rQ (U0 J (Y4 (Z2 (Z2 (Q3 (W0 (rQ (rS (kO J (Q2 J (kO J (Y1 J .here rfl (kO J (aJ J (by first | exact hr.spot | exact hc.spot) (kM J J (Q0 (W1 (U4 (fun j e A => ∃ (k : Nat), e = [(42, .slice a4 cs.length c4), (43, .int .i64 (cs.length : Int)), (44, .int .i64 (k : Int))] /\ A = [] /\ j = cs.length - k /\ k <= cs.length /\ mY cs = mY (cs.drop k)) 200 0 281474976710656 ?_ (j := _) (env2 := _) (A2 := _) ?_ ?_ ?_ ?_ ⟨0, rfl, rfl, rfl, Nat.zero_le _, rfl⟩)))))))))))))))))))
     rotate_left
     ·omega
     ·omega
     ·exact lL
     ·exact (.cons _ .slnil)
     rintro n hn j _ _ ⟨k, rfl, rfl, rfl, hk, hj⟩;refine rS (kO J (W5 J J (fun h11 => ?_) (fun h11 => ?_)))
     ·obtain ⟨q6, o6, z0, z1, z2, z3, z4, z5, ahc, hz, hat, j0, j1, j2, j3, j4, j5⟩ := hc.row6 (k := k) oM
      have hat2 := hat;obtain ⟨e0, e1, e2, e3, e4, e5, _⟩ := hat2;have := j0.lo; have := j0.hi;have := j1.lo; have := j1.hi;have := j2.lo; have := j2.hi;have := j3.lo; have := j3.hi;have := j4.lo; have := j4.hi;have := j5.lo; have := j5.hi;refine Q0 (rQ (Y0 J (Q1 (W0 (rQ (W1 (rS (kO J (bK ahc rfl rfl rfl (by first | decide | omega) (kO J (cV J dE aM J (kO J (bG J J (fun b12 => (kZ J (Q6 J J .here rfl rfl rfl rfl (Q0 (rS (kO J (V4 J dE .here rfl (kO J (gL J J (fun s1 h1 => xS _ _ _ _ _ _ _ s1 h1.wf) (fun h13 => ?_) (fun h13 => ?_)))))))))))))))))))))))
      ·refine kM J J (Q0 (rS (kM J J (kO J (V3 J J (fun h => absurd h dE) (fun _ => (Q0 (U0 J (Q1 (Z1 (W0 (rI (kO J (Y3 J J oM (kM J J (Q0 (W0 ?_)))))))))))))))))
       exact ⟨rfl, _, _, _, (show cs.length - (k + 1) < cs.length - k from oM), lL, (.cons _ .slnil), ⟨k + 1, rfl, rfl, rfl, oM, BY hz hj aM⟩⟩
      ·refine kM J J (Q0 (rS (kM J J (kO J (V3 J J (fun _ => (Q0 (Y0 J (rS (kM J J (kM J J (Q0 (V2 (Y6 (W3 (W3 (Y6 (W3 (aV J ⟨congrArg (Value.int .i64) ?_, rfl⟩)))))))))))))) (fun h => absurd h dE))))))
       unfold fO
       first
        | (rw [if_neg aM]; done)
        | (rw [if_pos hsp, if_pos oM]; done)
        | (rw [if_pos hsp, if_neg oM, gB hx hi aM]; rfl)
        | (rw [if_pos hsp, if_neg oM, gB hx hi oM]; rfl)
        | (rw [if_pos hsp, if_neg oM, hrd, gC hz hj aM]; rfl)
        | (rw [if_pos hsp, if_neg oM, hrd, gC hz hj oM]; rfl)
        | (rw [if_pos hsp, if_neg oM, hrd, nX hj oM]; rfl)
     ·refine Q0 (rQ (U0 J (Y4 (Z2 (Z2 (Q3 (W0 (rS (kM J J (Q0 (V2 (aV J ⟨congrArg (Value.int .i64) ?_, rfl⟩))))))))))))
      unfold fO
      first
       | (rw [if_neg aM]; done)
       | (rw [if_pos hsp, if_pos oM]; done)
       | (rw [if_pos hsp, if_neg oM, gB hx hi aM]; rfl)
       | (rw [if_pos hsp, if_neg oM, gB hx hi oM]; rfl)
       | (rw [if_pos hsp, if_neg oM, hrd, gC hz hj aM]; rfl)
       | (rw [if_pos hsp, if_neg oM, hrd, gC hz hj oM]; rfl)
       | (rw [if_pos hsp, if_neg oM, hrd, nX hj oM]; rfl)
 ·refine kM J J (Q0 (rS (kM J J (kO J (V3 J J (fun _ => (Q0 (Y0 J (rS (kM J J (kM J J (Q0 (V2 (W3 (aV J ⟨congrArg (Value.int .i64) ?_, rfl⟩)))))))))) (fun h => absurd h dE))))))
  unfold fO
  first
   | (rw [if_neg aM]; done)
   | (rw [if_pos hsp, if_pos oM]; done)
   | (rw [if_pos hsp, if_neg oM, gB hx hi aM]; rfl)
   | (rw [if_pos hsp, if_neg oM, gB hx hi oM]; rfl)
   | (rw [if_pos hsp, if_neg oM, hrd, gC hz hj aM]; rfl)
   | (rw [if_pos hsp, if_neg oM, hrd, gC hz hj oM]; rfl)
   | (rw [if_pos hsp, if_neg oM, hrd, nX hj oM]; rfl)
end
theorem RowsE.row2 {s : St} {a : Option Addr} {rs : List (List Int)} (h : RowsE s 2 a rs) {k : Nat} (hk : k < rs.length) : ∃ b o p q, a = some ⟨b, o, none⟩ /\ rs[k]? = some [p, q] /\ oR s b (o + k * 2) [.int .i64 p, .int .i64 q] /\ I64 p /\ I64 q := by
 obtain ⟨b, o, r, h1, h2, h3, h4, h5⟩ := h.row hk;obtain ⟨p, r1, rfl, g1⟩ := aU h3;obtain ⟨q, r2, rfl, g2⟩ := aU g1;have : r2 = [] := List.eq_nil_of_length_eq_zero g2;subst this;exact ⟨b, o, p, q, h1, h2, h4, h5 p sM, h5 q sM⟩
theorem Me (a0 a1 b0 b1 : Int) : pureVal Tryz.prog (Op.equal 86 (.agg #[.int .i64 a0, .int .i64 a1]) (.agg #[.int .i64 b0, .int .i64 b1])) = some (decide (([a0, a1] : List Int) = [b0, b1])) := by
 have p0 : pureVal Tryz.prog (part 3 #[.int .i64 a0, .int .i64 a1] 0) = some (.int .i64 a0) := kR
 have q0 : pureVal Tryz.prog (part 3 #[.int .i64 b0, .int .i64 b1] 0) = some (.int .i64 b0) := kR
 have p1 : pureVal Tryz.prog (part 3 #[.int .i64 a0, .int .i64 a1] 1) = some (.int .i64 a1) := kR
 have q1 : pureVal Tryz.prog (part 3 #[.int .i64 b0, .int .i64 b1] 1) = some (.int .i64 b1) := kR
 have e0 : ∀ x y, pureVal Tryz.prog (Op.equalIn 9999 3 (.int .i64 x) (.int .i64 y)) = some (x == y) := by intro x y; kernel_rfl
 unfold Op.equal;show pureVal _ (Op.equalIn (9999 + 1) 86 _ _) = _;rw [Op.equalIn];rw [fH, HT Tryz.underlying86];simp [fH, AA, p0, q0, p1, q1, e0];by_cases h0 : a0 = b0
 ·subst h0
  by_cases h1 : a1 = b1
  ·subst h1
   simp [fH, lT, p1, q1, e0]
  ·simp [h1, fH, lT, p1, q1, e0]
 ·simp [h0, fH, lT, p1, q1, e0]
def aL (L : List (List Int)) : List Value := L.flatMap fun r => r.map (.int .i64)
theorem dA {L M : List (List Int)} : aL (L ++ M) = aL L ++ aL M := by simp [aL]
theorem qY {α : Type} {a l : List α} : ∀ {n i : Nat}, iS (a ++ l) (a.length + i) n = iS l i n
 | 0, i => rfl
 | n + 1, i => by
  simp only [iS];rw [List.getElem?_append_right oM, Nat.add_sub_cancel_left, show a.length + i + 1 = a.length + (i + 1) by omega, qY]
theorem BZ {α : Type} {l : List α} : ∀ {a : List α}, iS (a ++ l) 0 a.length = some a
 | [] => rfl
 | v :: a => by
  have h := qY (a := [v]) (l := a ++ l) (n := a.length) (i := 0);rw [BZ (a := a)] at h;have h2 : iS (v :: (a ++ l)) 1 a.length = some a := by simpa using h
  show iS (v :: (a ++ l)) 0 (a.length + 1) = _;simp only [iS, List.getElem?_cons_zero];rw [h2]
structure Wd (w : Nat) (L : List (List Int)) : Prop where
 len : ∀ r ∈ L, r.length = w
 fit : ∀ r ∈ L, ∀ x ∈ r, -9223372036854775808 <= x /\ x < 9223372036854775808
theorem Wd.nil {w : Nat} : Wd w [] := ⟨fun _ h => (by cases h), fun _ h => (by cases h)⟩
theorem Wd.app {w : Nat} {L M : List (List Int)} (h : Wd w L) (k : Wd w M) : Wd w (L ++ M) :=
 ⟨fun r hr => (List.mem_append.1 hr).elim (h.len r) (k.len r), fun r hr => (List.mem_append.1 hr).elim (h.fit r) (k.fit r)⟩
theorem Wd.two {a b : Int} (ha : I64 a) (hb : I64 b) : Wd 2 [[a, b]] :=
 ⟨fun r hr => by rw [List.mem_singleton.1 hr]; rfl, fun r hr x hx => by
  rw [List.mem_singleton.1 hr] at hx;rcases List.mem_cons.1 hx with rfl | hx
  ·exact ha
  ·rw [List.mem_singleton.1 hx]; exact hb⟩
theorem aA {w : Nat} : ∀ {L : List (List Int)}, (∀ r ∈ L, r.length = w) -> (aL L).length = L.length * w
 | [], _ => by simp [aL]
 | r :: L, h => by
  have h1 := aA (L := L) (fun x hx => h x (List.mem_cons_of_mem _ hx));have h2 := h r (List.mem_cons_self ..);have h3 : aL (r :: L) = r.map (.int .i64) ++ aL L := by simp [aL]
  rw [h3, List.length_append, h1, List.length_map, h2, List.length_cons, Nat.add_mul]; omega
theorem sK {w : Nat} : ∀ {L : List (List Int)} {i : Nat} {r : List Int}, (∀ r ∈ L, r.length = w) -> L[i]? = some r -> iS (aL L) (i * w) w = some (r.map (.int .i64))
 | [], i, r, _, h => by simp at h
 | r' :: L, 0, r, hw, h => by
  simp only [List.getElem?_cons_zero, Option.some.injEq] at h;subst h;have h3 : aL (r' :: L) = r'.map (.int .i64) ++ aL L := by simp [aL]
  have h4 : (r'.map (Value.int .i64)).length = w := by rw [List.length_map]; exact hw r' (List.mem_cons_self ..)
  rw [h3, Nat.zero_mul];have := BZ (l := aL L) (a := r'.map (Value.int .i64))
  rwa [h4] at this
 | r' :: L, i + 1, r, hw, h => by
  have h3 : aL (r' :: L) = r'.map (.int .i64) ++ aL L := by simp [aL]
  have h4 : (r'.map (Value.int .i64)).length = w := by rw [List.length_map]; exact hw r' (List.mem_cons_self ..)
  have ih := sK (L := L) (i := i) (r := r) (fun x hx => hw x (List.mem_cons_of_mem _ hx)) (by simpa using h);have := qY (a := r'.map (Value.int .i64)) (l := aL L) (n := w) (i := i * w);rw [h4] at this;rw [h3, Nat.add_mul, Nat.one_mul, Nat.add_comm, this, ih]
theorem RowsE.ownF {s : St} {b e w : Nat} {op : Bool} {L : List (List Int)} (h : Obj s b e op (aL L)) (hw : Wd w L) (hl : L.length < 140737488355328) : RowsE s w (some ⟨b, 0, none⟩) L :=
 ⟨fun c hc => by cases hc; rfl, fun _ => ⟨b, 0, rfl⟩, fun c o hc i r hr => by
  cases hc;rw [Nat.zero_add];exact h.ats (gK (sK hw.len hr)).2, hw.len, hw.fit, hl⟩
theorem RowsE.nil {s : St} {w : Nat} : RowsE s w none [] := ⟨fun b h => (by cases h), fun h => absurd rfl h, fun b o h => (by cases h), fun r h => (by cases h), fun r h => (by cases h), dE⟩
/-! Where a row stands in a list. -/
def uW (x : List Int) : List (List Int) -> Nat
 | [] => 0
 | r :: L => if r = x then 0 else uW x L + 1
theorem vO {x : List Int} : ∀ {L : List (List Int)} {k : Nat}, x ∉ L.take k -> L[k]? = some x -> uW x L = k
 | [], k, _, h => by simp at h
 | r :: L, 0, _, h => by
  simp only [List.getElem?_cons_zero, Option.some.injEq] at h;unfold uW; rw [if_pos h]
 | r :: L, k + 1, h1, h => by
  have h2 : ¬ r = x := fun e => h1 (by rw [List.take_succ_cons, e]; exact List.mem_cons_self ..)
  unfold uW; rw [if_neg h2, vO (k := k) (fun q => h1 (by rw [List.take_succ_cons]; exact List.mem_cons_of_mem _ q)) (by simpa using h)]
theorem pK {x : List Int} : ∀ {L : List (List Int)}, x ∈ L -> uW x L < L.length
 | r :: L, h => by
  unfold uW;by_cases hr : r = x
  ·rw [if_pos hr]; simp
  ·rw [if_neg hr]
   have := pK (L := L) ((List.mem_cons.1 h).resolve_left (fun e => hr e.symm));simp; omega
def vC (L : List (List Int)) (x : List Int) : Int := if x ∈ L then (uW x L : Int) else -1
theorem AI {L : List (List Int)} {k : Nat} {x r : List Int} (h : x ∉ L.take k) (hr : L[k]? = some r) (hne : ¬ x = r) : x ∉ L.take (k + 1) := by
 rw [List.take_add_one, hr]; simp [h, hne]
theorem AJ {L : List (List Int)} {k : Nat} {x r : List Int} (h : x ∉ L.take k) (hr : L[k]? = some r) (he : x = r) : vC L x = (k : Int) := by
 subst he;unfold vC;rw [if_pos (List.mem_of_getElem? hr), vO h hr]
theorem C2 {L : List (List Int)} {k : Nat} {x : List Int} (h : x ∉ L.take k) (hk : L.length <= k) : x ∉ L := by rwa [List.take_of_length_le hk] at h
theorem vP {L : List (List Int)} {k : Nat} {x : List Int} (h : x ∉ L.take k) (hk : L.length <= k) : vC L x = -1 := if_neg (C2 h hk)
theorem Ib {L : List (List Int)} {x : List Int} (h : 0 <= vC L x) : x ∈ L := by
 unfold vC at h;split at h
 ·assumption
 ·omega
theorem EB {L : List (List Int)} {x : List Int} (h : vC L x < 0) : x ∉ L := by
 unfold vC at h;split at h
 ·omega
 ·assumption
/-! The tape days of readings. -/
def eT (D : List (List Int)) (r : List Int) : List (List Int) := if [r.getD 5 0, r.getD 6 0] ∈ D then D else D ++ [[r.getD 5 0, r.getD 6 0]]
def dys (rs : List (List Int)) : List (List Int) := rs.foldl eT []
theorem xV {rs : List (List Int)} {k : Nat} {x0 x1 x2 x3 x4 x5 x6 : Int} (h : rs[k]? = some [x0, x1, x2, x3, x4, x5, x6]) : dys (rs.take (k + 1)) = if [x5, x6] ∈ dys (rs.take k) then dys (rs.take k) else dys (rs.take k) ++ [[x5, x6]] := by
 unfold dys;rw [List.take_add_one, h, List.foldl_append]; rfl
theorem Ic {rs D : List (List Int)} {k : Nat} {x0 x1 x2 x3 x4 x5 x6 : Int} (h : rs[k]? = some [x0, x1, x2, x3, x4, x5, x6]) (hD : D = dys (rs.take k)) (hm : [x5, x6] ∈ D) : D = dys (rs.take (k + 1)) := by
 subst hD; rw [xV h, if_pos hm]
theorem EC {rs D : List (List Int)} {k : Nat} {x0 x1 x2 x3 x4 x5 x6 : Int} (h : rs[k]? = some [x0, x1, x2, x3, x4, x5, x6]) (hD : D = dys (rs.take k)) (hm : [x5, x6] ∉ D) : D ++ [[x5, x6]] = dys (rs.take (k + 1)) := by
 subst hD; rw [xV h, if_neg hm]
theorem ED {rs D : List (List Int)} {k : Nat} (hD : D = dys (rs.take k)) (hk : rs.length <= k) : D = dys rs := by rwa [List.take_of_length_le hk] at hD
theorem EE {rs : List (List Int)} {x0 x1 x2 x3 x4 x5 x6 : Int} (h : rs[0]? = some [x0, x1, x2, x3, x4, x5, x6]) : [[x5, x6]] = dys (rs.take (0 + 1)) := by rw [xV h]; rfl
section
variable {X : FuncId -> List Value -> St -> (Value -> St -> Bool) -> Bool}
theorem AK (n : Nat) (x0 x1 x2 x3 x4 x5 x6 : Int) (s : St) (hs : Wf s) : bW Tryz.prog (cA cH) X (n + 40) 88 [.agg ⟨[.int .i64 x0, .int .i64 x1, .int .i64 x2, .int .i64 x3, .int .i64 x4, .int .i64 x5, .int .i64 x6]⟩] s (fun v A => v = .agg ⟨[.int .i64 x5, .int .i64 x6]⟩ /\ A = []) := by
 refine enter L6 rfl hs ?_;unfold K6;refine rS (kO J (bI J J J (fun b1 => (kO J (bG J J (fun b2 => (Q0 (rS (kO J (Q2 J (kO J (Y1 J .h1 J (kO J (Q2 J (kO J (Y1 J .h1 J (kO J (Z6 J J (kZ J (Q6 J J .here rfl rfl rfl rfl (Q0 (V2 ?_))))))))))))))))))))));exact ⟨rfl, [_], [], ⟨_, _, _, [], rfl, rfl, dE, ⟨_, _, _, .here, rfl⟩, rfl⟩, List.nil_sublist _, rfl, rfl⟩
theorem Mf (n : Nat) (a : Option Addr) (cap : Nat) (L : List (List Int)) (dt de : Int) (s : St) (hs : Wf s) (hn : 281474976710656 <= n) (hL : RowsE s 2 a L) : bW Tryz.prog (cA cH) X (n + 100) 179 [.slice a L.length cap, .agg ⟨[.int .i64 dt, .int .i64 de]⟩] s (fun v A => v = .int .i64 (vC L [dt, de]) /\ A = []) := by
 refine enter HK rfl hs ?_;unfold D9;have hlen := hL.len;refine rS (kO J (bI J J J (fun b1 => (kM J J (Q0 (rQ (rS (kM J J (kO J (aJ J hL.spot (kM J J (Q0 (W1 (U4 (fun j e A => ∃ (k : Nat), e = [(0, .slice a L.length cap), (3, .pointer (some ⟨b1, 0, none⟩)), (7, .int .i64 (L.length : Int)), (8, .int .i64 (k : Int))] /\ A = (.row b1 86 false ([.int .i64 dt, .int .i64 de]) :: []) /\ j = L.length - k /\ k <= L.length /\ [dt, de] ∉ L.take k) 70 0 281474976710656 ?_ (j := _) (env2 := _) (A2 := _) ?_ ?_ ?_ ?_ ⟨0, rfl, rfl, rfl, Nat.zero_le _, sM⟩))))))))))))))
 rotate_left
 ·omega
 ·omega
 ·exact lL
 ·exact (.q .slnil)
 rintro n hn j _ _ ⟨k, rfl, rfl, rfl, hk, hm⟩;refine rS (kO J (W5 J J (fun h2 => ?_) (fun h2 => ?_)))
 ·obtain ⟨q2, o2, p, q, ahL, hx, hat, i0, i1⟩ := hL.row2 (k := k) oM
  have hat2 := hat;obtain ⟨d0, d1, _⟩ := hat2;refine Q0 (rQ (Y0 J (Q1 (W0 (rQ (W1 (rS (kM J J (kM J J (Q0 (rS (kO J (V4 J dE .here rfl (kM J J (kM J J (kO J (bK ahL rfl rfl rfl (by first | decide | omega) (kO J (cV J dE aM J (kO J (BL J J ⟨Me _ _ _ _, rfl⟩ (fun h3 => ?_) (fun h3 => ?_))))))))))))))))))))))
  ·refine Q0 (Y0 J (rS (kM J J (kM J J (Q0 (V2 (Y6 (W3 (W3 (Y6 (W3 (aV J ⟨congrArg (Value.int .i64) ?_, rfl⟩))))))))))))
   first
    | exact (vP hm oM).symm
    | exact (AJ hm hx (of_decide_eq_true aM)).symm
  ·refine Q0 (U0 J (Q1 (Z1 (W0 (rI (kO J (Y3 J J oM (kM J J (Q0 (W0 ?_))))))))))
   exact ⟨rfl, _, _, _, (show L.length - (k + 1) < L.length - k from oM), lL, (.q .slnil), ⟨k + 1, rfl, rfl, rfl, oM, AI hm hx (of_decide_eq_false aM)⟩⟩
 ·refine Q0 (rQ (U0 J (Y4 (Z2 (Z2 (Q3 (W0 (rS (kM J J (Q0 (V2 (aV J ⟨congrArg (Value.int .i64) ?_, rfl⟩))))))))))))
  first
   | exact (vP hm oM).symm
   | exact (AJ hm hx (of_decide_eq_true aM)).symm
theorem xW (n : Nat) (a : Option Addr) (cap : Nat) (L : List (List Int)) (dt de : Int) (s : St) (hs : Wf s) (hn : 281474976710656 <= n) (hL : RowsE s 2 a L) : bW Tryz.prog (cA cH) X (n + 150) 135 [.slice a L.length cap, .agg ⟨[.int .i64 dt, .int .i64 de]⟩] s (fun v A => v = .bool (decide ([dt, de] ∈ L)) /\ A = []) := by
 refine enter HB rfl hs ?_;unfold DW;refine rS (kO J (bI J J J (fun b1 => (kM J J (Q0 (rS (kM J J (kO J (V4 J dE .here rfl (kO J (aH J J (fun s1 h1 => Mf _ _ _ _ _ _ s1 h1.wf oM (hL.ext hs h1.2.1)) (kO J (zO J J (fun h2 => ?_) (fun h2 => ?_))))))))))))))
 ·refine kM J J (Q0 (V2 (aV J ⟨congrArg Value.bool ?_, rfl⟩)))
  first | exact (decide_eq_true (Ib aM)).symm | exact (decide_eq_false (EB oM)).symm
 ·refine kM J J (Q0 (V2 (aV J ⟨congrArg Value.bool ?_, rfl⟩)))
  first | exact (decide_eq_true (Ib aM)).symm | exact (decide_eq_false (EB oM)).symm
theorem lW (n : Nat) (a : Option Addr) (cap : Nat) (L : List (List Int)) (dt de : Int) (s : St) (hs : Wf s) (hn : 281474976710656 <= n) (hL : RowsE s 2 a L) : bW Tryz.prog (cA cH) X (n + 100) 69 [.slice a L.length cap, .agg ⟨[.int .i64 dt, .int .i64 de]⟩] s (fun v A => v = .int .i64 (vC L [dt, de]) /\ A = []) := by
 refine enter LW rfl hs ?_;unfold KV;have hlen := hL.len;refine rS (kO J (bI J J J (fun b1 => (kM J J (Q0 (rQ (rS (kM J J (Q0 (W1 (U4 (fun j e A => ∃ (k : Nat), e = [(0, .slice a L.length cap), (3, .pointer (some ⟨b1, 0, none⟩)), (5, .int .i64 (k : Int))] /\ A = (.row b1 86 false ([.int .i64 dt, .int .i64 de]) :: []) /\ j = L.length - k /\ k <= L.length /\ [dt, de] ∉ L.take k) 70 0 281474976710656 ?_ (j := _) (env2 := _) (A2 := _) ?_ ?_ ?_ ?_ ⟨0, rfl, rfl, rfl, Nat.zero_le _, sM⟩)))))))))))
 rotate_left
 ·omega
 ·omega
 ·exact lL
 ·exact (.q .slnil)
 rintro n hn j _ _ ⟨k, rfl, rfl, rfl, hk, hm⟩;refine rQ (rS (kM J J (kM J J (kO J (aJ J hL.spot (kO J (W5 J J (fun h2 => ?_) (fun h2 => ?_))))))))
 ·obtain ⟨q2, o2, p, q, ahL, hx, hat, i0, i1⟩ := hL.row2 (k := k) oM
  have hat2 := hat;obtain ⟨d0, d1, _⟩ := hat2;refine Q0 (Y0 J (Q1 (W0 (rQ (W1 (rS (kM J J (kM J J (kO J (bK ahL rfl rfl rfl (by first | decide | omega) (kO J (cV J dE aM J (kO J (V4 J dE .here rfl (kO J (BL J J ⟨Me _ _ _ _, rfl⟩ (fun h3 => ?_) (fun h3 => ?_)))))))))))))))))
  ·refine Q0 (Y0 J (rS (kM J J (kM J J (Q0 (V2 (Y6 (W3 (W3 (Y6 (W3 (aV J ⟨congrArg (Value.int .i64) ?_, rfl⟩))))))))))))
   first
    | exact (vP hm oM).symm
    | exact (AJ hm hx (Eq.symm (of_decide_eq_true aM))).symm
  ·refine Q0 (U0 J (Q1 (Z1 (W0 (rI (kM J J (kO J (Y3 J J oM (kM J J (Q0 (W0 ?_)))))))))))
   exact ⟨rfl, _, _, _, (show L.length - (k + 1) < L.length - k from oM), lL, (.q .slnil), ⟨k + 1, rfl, rfl, rfl, oM, AI hm hx (fun q => absurd q.symm (of_decide_eq_false aM))⟩⟩
 ·refine Q0 (U0 J (Y4 (Z2 (Z2 (Q3 (W0 (rS (kM J J (Q0 (V2 (aV J ⟨congrArg (Value.int .i64) ?_, rfl⟩)))))))))))
  first
   | exact (vP hm oM).symm
   | exact (AJ hm hx (Eq.symm (of_decide_eq_true aM))).symm
theorem Id (n : Nat) (a : Option Addr) (cap : Nat) (rs : List (List Int)) (s : St) (hs : Wf s) (hn : 844424930131968 <= n) (hr : RowsE s 7 a rs) (h60 : rs.length <= 60) : bW Tryz.prog (cA cH) X (n + 700) 92 [.slice a rs.length cap] s (fun v A => (rs = [] /\ v = .slice none 0 0 /\ A = []) ∨ (rs ≠ [] /\ ∃ b, v = .slice (some ⟨b, 0, none⟩) (dys rs).length OPEN /\ A = [.row b 86 true (aL (dys rs))] /\ Wd 2 (dys rs) /\ (dys rs).length <= rs.length)) := by
 refine enter L8 rfl hs ?_;unfold Lb;have hlen := hr.len;refine rS (kM J J (Q0 (rS (kM J J (Q0 (rQ (rS (kM J J (kO J (aJ J hr.spot (kM J J (Q0 (W1 (bJ (rS (kO J (W5 J J (fun h1 => ?_) (fun h1 => ?_))))))))))))))))))
 ·obtain ⟨q7, o7, x0, x1, x2, x3, x4, x5, x6, ahr, hx, hat, i0, i1, i2, i3, i4, i5, i6⟩ := hr.row7 (k := 0) oM
  have hat2 := hat;obtain ⟨d0, d1, d2, d3, d4, d5, d6, _⟩ := hat2;have := i0.lo; have := i0.hi;have := i1.lo; have := i1.hi;have := i2.lo; have := i2.hi;have := i3.lo; have := i3.hi;have := i4.lo; have := i4.hi;have := i5.lo; have := i5.hi;have := i6.lo; have := i6.hi;have hne : rs ≠ [] := by rintro rfl; simp at hx
  refine Q0 (rQ (Y0 J (Q1 (W0 (rQ (W1 (rS (kO J (bK (j := 0) ahr rfl rfl (by first | rfl | omega) (by first | decide | omega) (kO J (cV J dE aM J (kO J (bG J J (fun b2 => (kZ J (Q6 J J .here rfl rfl rfl rfl (Q0 (rS (kO J (V4 J dE .here rfl (kO J (aH J J (fun s1 h1 => AK _ _ _ _ _ _ _ _ s1 h1.wf) (kO J (bG J J (fun b3 => (kZ J (Q6 J J .here rfl rfl rfl rfl (Q0 (rS (kM J J (kO J (V4 J dE .here rfl (kO J (bH J J (fun s1 h1 => xW _ _ _ _ _ _ s1 h1.wf oM RowsE.nil) (fun h4 => ?_) (fun h4 => ?_)))))))))))))))))))))))))))))))))))
  ·exact absurd h4 sM
  ·refine kO J (U6 J (Q0 (Y0 J (rI (kM J J (kO J (V4 J dE .here rfl (kO J (bO J J J (fun b5 => (kO J (jP J J (iG.own .here rfl sM) dE oM oM (fun b6 => (kM J J (Q0 (Z1 (W0 (rI (kO J (Y3 J J dE (kM J J (Q0 (W0 (U4 (fun j e A => ∃ (k b : Nat) (D : List (List Int)), e = [(7, .slice a rs.length cap), (8, .int .i64 (rs.length : Int)), (9, .int .i64 (k : Int)), (3, .slice (some ⟨b, 0, none⟩) D.length OPEN)] /\ A = (.row b 86 true (aL D) :: []) /\ j = rs.length - k /\ k <= rs.length /\ D = dys (rs.take k) /\ D.length <= k /\ Wd 2 D) 400 562949953421312 281474976710656 ?_ (j := _) (env2 := _) (A2 := _) ?_ ?_ ?_ ?_ ⟨0 + 1, b6, [[x5, x6]], rfl, rfl, rfl, oM, EE hx, sM, Wd.two i5 i6⟩))))))))))))))))))))))))
   rotate_left
   ·omega
   ·omega
   ·exact lL
   ·exact (.q (.cons _ (.cons _ (.cons _ .slnil))))
   rintro n hn j _ _ ⟨k, b, D, rfl, rfl, rfl, hk, hD, hDl, hW⟩;refine rS (kO J (W5 J J (fun h7 => ?_) (fun h7 => ?_)))
   ·obtain ⟨q7, o7, x0, x1, x2, x3, x4, x5, x6, ahr, hx, hat, i0, i1, i2, i3, i4, i5, i6⟩ := hr.row7 (k := k) oM
    have hat2 := hat;obtain ⟨d0, d1, d2, d3, d4, d5, d6, _⟩ := hat2;have := i0.lo; have := i0.hi;have := i1.lo; have := i1.hi;have := i2.lo; have := i2.hi;have := i3.lo; have := i3.hi;have := i4.lo; have := i4.hi;have := i5.lo; have := i5.hi;have := i6.lo; have := i6.hi;refine Q0 (rQ (Y0 J (Q1 (W0 (rQ (W1 (rS (kO J (bK ahr rfl rfl rfl (by first | decide | omega) (kO J (cV J dE aM J (kO J (bG J J (fun b8 => (kZ J (Q6 J J .here rfl rfl rfl rfl (Q0 (rS (kO J (V4 J dE .here rfl (kO J (aH J J (fun s1 h1 => AK _ _ _ _ _ _ _ _ s1 h1.wf) (kO J (bG J J (fun b9 => (kZ J (Q6 J J .here rfl rfl rfl rfl (Q0 (rS (kM J J (kO J (V4 J dE .here rfl (kO J (bH J J (fun s1 h1 => xW _ _ _ _ _ _ s1 h1.wf oM (RowsE.ownF (h1.own .h2) hW oM)) (fun h10 => ?_) (fun h10 => ?_)))))))))))))))))))))))))))))))))))
    ·refine kO J (U6 J (Q0 (U0 J (Q1 (Z1 (W0 (rI (kO J (Y3 J J oM (kM J J (Q0 (W0 ?_))))))))))))
     exact ⟨rfl, _, _, _, (show rs.length - (k + 1) < rs.length - k from oM), lL, (.cons _ (.cons _ (.q .slnil))), ⟨k + 1, b, D, rfl, rfl, rfl, oM, Ic hx hD aM, oM, hW⟩⟩
    ·refine kO J (U6 J (Q0 (Y0 J (rI (kM J J (kO J (V4 J dE .here rfl (kO J (bO J J J (fun b11 => (kO J (dI J J (iG.own .here rfl sM) .h3 (by rw [aA hW.len]) (.inl ⟨rfl, rfl⟩) dE oM oM (fun b12 => (kM J J (Q0 (Z1 (W0 (rI (kO J (Y3 J J oM (kM J J (Q0 (W0 ?_)))))))))))))))))))))))
     exact ⟨rfl, _, _, _, (show rs.length - (k + 1) < rs.length - k from oM), (lc 7 J (lc 8 J (lc 9 J (lc 3 J gH.nil)))), (.q (.cons _ (.cons _ (.cons _ .slnil)))), ⟨k + 1, b12, D ++ [[x5, x6]], sM, (by rw [dA]; rfl), rfl, oM, EC hx hD aM, (by simp; omega), hW.app (Wd.two i5 i6)⟩⟩
   ·refine Q0 (rQ (U0 J (Y4 (Z2 (Z2 (Q3 (W0 (rS (kM J J (kM J J (Q0 (V2 ?_))))))))))))
    have hDe := ED hD oM;subst hDe;exact fI J (.q .slnil) (.inr ⟨hne, b, rfl, rfl, hW, oM⟩)
 ·refine Q0 (rQ (U0 J (Y4 (Z2 (Z2 (Q3 (W0 (rS (kM J J (kM J J (Q0 (V2 ?_))))))))))))
  exact fI J (List.nil_sublist _) (.inl ⟨List.eq_nil_of_length_eq_zero oM, rfl, rfl⟩)
theorem vQ (n : Nat) (a : Option Addr) (cap : Nat) (rs : List (List Int)) (s : St) (hs : Wf s) (hn : 844424930131968 <= n) (hr : RowsE s 7 a rs) (h60 : rs.length <= 60) : bW Tryz.prog (cA cH) X (n + 700) 39 [.slice a rs.length cap] s (fun v A => (rs = [] /\ v = .slice none 0 0 /\ A = []) ∨ (rs ≠ [] /\ ∃ b, v = .slice (some ⟨b, 0, none⟩) (dys rs).length OPEN /\ A = [.row b 86 true (aL (dys rs))] /\ Wd 2 (dys rs) /\ (dys rs).length <= rs.length)) := by
 refine enter Lz rfl hs ?_;unfold Kf;have hlen := hr.len;refine rS (kM J J (Q0 (rS (kM J J (Q0 (rQ (rS (kM J J (Q0 (W1 (bJ (rQ (rS (kM J J (kM J J (kO J (aJ J hr.spot (kO J (W5 J J (fun h1 => ?_) (fun h1 => ?_))))))))))))))))))))
 ·obtain ⟨q7, o7, x0, x1, x2, x3, x4, x5, x6, ahr, hx, hat, i0, i1, i2, i3, i4, i5, i6⟩ := hr.row7 (k := 0) oM
  have hat2 := hat;obtain ⟨d0, d1, d2, d3, d4, d5, d6, _⟩ := hat2;have := i0.lo; have := i0.hi;have := i1.lo; have := i1.hi;have := i2.lo; have := i2.hi;have := i3.lo; have := i3.hi;have := i4.lo; have := i4.hi;have := i5.lo; have := i5.hi;have := i6.lo; have := i6.hi;have hne : rs ≠ [] := by rintro rfl; simp at hx
  refine Q0 (Y0 J (Q1 (W0 (rQ (W1 (rS (kM J J (kM J J (kO J (bK (j := 0) ahr rfl rfl (by first | rfl | omega) (by first | decide | omega) (kO J (Q2 J (kO J (W6 J aM (kM J J (kM J J (kO J (bK (j := 0) ahr rfl rfl (by first | rfl | omega) (by first | decide | omega) (kO J (Q2 J (kO J (W6 J aM (kO J (Z6 J J (kO J (bG J J (fun b2 => (kZ J (Q6 J J .here rfl rfl rfl rfl (Q0 (rS (kM J J (kO J (V4 J dE .here rfl ?_))))))))))))))))))))))))))))))))));refine kO J (aH J J (fun s1 h1 => lW _ _ _ _ _ _ s1 h1.wf oM RowsE.nil) (kO J (W5 J J (fun h3 => ?_) (fun h3 => ?_))))
  ·have hnm := EB h3
   refine Q0 (Y0 J (rI (kM J J (kO J (V4 J dE .here rfl (kO J (bO J J J (fun b4 => (kO J (jP J J (iG.own .here rfl sM) dE oM oM (fun b5 => (kM J J (Q0 (Z1 (W0 (rI (kM J J (kO J (Y3 J J dE (kM J J (Q0 (W0 (U4 (fun j e A => ∃ (k b : Nat) (D : List (List Int)), e = [(0, .slice a rs.length cap), (4, .int .i64 (k : Int)), (3, .slice (some ⟨b, 0, none⟩) D.length OPEN)] /\ A = (.row b 86 true (aL D) :: []) /\ j = rs.length - k /\ k <= rs.length /\ D = dys (rs.take k) /\ D.length <= k /\ Wd 2 D) 400 562949953421312 281474976710656 ?_ (j := _) (env2 := _) (A2 := _) ?_ ?_ ?_ ?_ ⟨0 + 1, b5, [[x5, x6]], rfl, rfl, rfl, oM, EE hx, sM, Wd.two i5 i6⟩)))))))))))))))))))))))
   rotate_left
   ·omega
   ·omega
   ·exact lL
   ·exact (.q (.cons _ (.cons _ .slnil)))
   rintro n hn j _ _ ⟨k, b, D, rfl, rfl, rfl, hk, hD, hDl, hW⟩;refine rQ (rS (kM J J (kM J J (kO J (aJ J hr.spot (kO J (W5 J J (fun h6 => ?_) (fun h6 => ?_))))))))
   ·obtain ⟨q7, o7, x0, x1, x2, x3, x4, x5, x6, ahr, hx, hat, i0, i1, i2, i3, i4, i5, i6⟩ := hr.row7 (k := k) oM
    have hat2 := hat;obtain ⟨d0, d1, d2, d3, d4, d5, d6, _⟩ := hat2;have := i0.lo; have := i0.hi;have := i1.lo; have := i1.hi;have := i2.lo; have := i2.hi;have := i3.lo; have := i3.hi;have := i4.lo; have := i4.hi;have := i5.lo; have := i5.hi;have := i6.lo; have := i6.hi;refine Q0 (Y0 J (Q1 (W0 (rQ (W1 (rS (kM J J (kM J J (kO J (bK ahr rfl rfl rfl (by first | decide | omega) (kO J (Q2 J (kO J (W6 J aM (kM J J (kM J J (kO J (bK ahr rfl rfl rfl (by first | decide | omega) (kO J (Q2 J (kO J (W6 J aM (kO J (Z6 J J (kO J (bG J J (fun b7 => (kZ J (Q6 J J .here rfl rfl rfl rfl (Q0 (rS (kM J J (kO J (V4 J dE .here rfl ?_))))))))))))))))))))))))))))))))));refine kO J (aH J J (fun s1 h1 => lW _ _ _ _ _ _ s1 h1.wf oM (RowsE.ownF (h1.own .h1) hW oM)) (kO J (W5 J J (fun h8 => ?_) (fun h8 => ?_))))
    ·have hnm := EB h8
     refine Q0 (Y0 J (rI (kM J J (kO J (V4 J dE .here rfl (kO J (bO J J J (fun b9 => (kO J (dI J J (iG.own .here rfl sM) .h2 (by rw [aA hW.len]) (.inl ⟨rfl, rfl⟩) dE oM oM (fun b10 => (kM J J (Q0 (Z1 (W0 (rI (kM J J (kO J (Y3 J J oM (kM J J (Q0 (W0 ?_))))))))))))))))))))));exact ⟨rfl, _, _, _, (show rs.length - (k + 1) < rs.length - k from oM), (lc 0 J (lc 4 J (lc 3 J gH.nil))), (.q (.cons _ (.cons _ .slnil))), ⟨k + 1, b10, D ++ [[x5, x6]], sM, (by rw [dA]; rfl), rfl, oM, EC hx hD aM, (by simp; omega), hW.app (Wd.two i5 i6)⟩⟩
    ·have hmm := Ib (show 0 <= vC D [x5, x6] from oM)
     refine Q0 (U0 J (Q1 (Z1 (W0 (rI (kM J J (kO J (Y3 J J oM (kM J J (Q0 (W0 ?_)))))))))));exact ⟨rfl, _, _, _, (show rs.length - (k + 1) < rs.length - k from oM), lL, (.cons _ (.q .slnil)), ⟨k + 1, b, D, rfl, rfl, rfl, oM, Ic hx hD aM, oM, hW⟩⟩
   ·refine Q0 (U0 J (Y4 (Z2 (Z2 (Q3 (W0 (rS (kM J J (kM J J (Q0 (V2 ?_)))))))))))
    have hDe := ED hD oM;subst hDe;exact fI J (.q .slnil) (.inr ⟨hne, b, rfl, rfl, hW, oM⟩)
  ·exfalso; simp [vC] at h3
 ·refine Q0 (U0 J (Y4 (Z2 (Z2 (Q3 (W0 (rS (kM J J (kM J J (Q0 (V2 ?_)))))))))))
  exact fI J (List.nil_sublist _) (.inl ⟨List.eq_nil_of_length_eq_zero oM, rfl, rfl⟩)
end
def lK (a b m1 m2 y : Int) : List (List Int) := [[a, b, m1, y], [b, a, m2, y]]
def sL (r d : Int) : Int := min ((r * d + 999).tdiv 1000) 20000
def acc (X : List (List Int)) (f : Nat -> List (List Int)) : Nat -> List (List Int)
 | 0 => X
 | t + 1 => acc X f t ++ f t
theorem nY {X L : List (List Int)} {f : Nat -> List (List Int)} {t : Nat} (h : f t = L) : aL (acc X f (t + 1)) = aL (acc X f t) ++ aL L := by
 show aL (acc X f t ++ f t) = _;rw [h, dA]
theorem qZ {X : List (List Int)} {f : Nat -> List (List Int)} {t : Nat} (h : f t = []) : acc X f (t + 1) = acc X f t := by
 show acc X f t ++ f t = _;rw [h, List.append_nil]
theorem rA {X L : List (List Int)} {f : Nat -> List (List Int)} {t : Nat} (h : f t = L) : (acc X f (t + 1)).length = (acc X f t).length + L.length := by
 show (acc X f t ++ f t).length = _;rw [h, List.length_append]
def L4 (L : List (List Int)) : Prop := ∀ r ∈ L, r.length = 4
theorem L4.nil : L4 [] := fun _ h => (by cases h)
theorem L4.lm {a b m1 m2 y : Int} : L4 (lK a b m1 m2 y) := fun r h => by
 rcases List.mem_cons.1 h with rfl | h
 ·rfl
 ·rw [List.mem_singleton.1 h]; rfl
theorem L4.app {L M : List (List Int)} (h : L4 L) (k : L4 M) : L4 (L ++ M) := fun r hr => (List.mem_append.1 hr).elim (h r) (k r)
theorem L4.acc {X : List (List Int)} {f : Nat -> List (List Int)} (hX : L4 X) (hf : ∀ k, L4 (f k)) : ∀ t, L4 (acc X f t)
 | 0 => hX
 | t + 1 => (L4.acc hX hf t).app (hf t)
structure Sv where
 r : Int
 al : Int
 up : Int
 l1 : List Int
 l2 : List Int
 rs : List (List Int)
 cs : List (List Int)
namespace Sv
variable (y : Sv)
def N : Nat := y.l2.length * y.l1.length
def D : List (List Int) := dys y.rs
def M : Int := (y.l1.length : Int) * (y.l2.length : Int)
def q1 (k : Nat) : List (List Int) := lK 0 ((k : Int) + 1) 20000 0 y.r
def q2 (k : Nat) : List (List Int) := if ((k / y.l2.length : Nat) : Int) + 1 < (y.l1.length : Int) then lK ((k : Int) + 1) (1 + (((k / y.l2.length : Nat) : Int) + 1) * (y.l2.length : Int) + ((k % y.l2.length : Nat) : Int)) (sL y.al (y.l1.getD (k / y.l2.length + 1) 0 - y.l1.getD (k / y.l2.length) 0)) (sL y.al (y.l1.getD (k / y.l2.length + 1) 0 - y.l1.getD (k / y.l2.length) 0)) y.r else []
def q3 (k : Nat) : List (List Int) := if ((k % y.l2.length : Nat) : Int) + 1 < (y.l2.length : Int) then lK ((k : Int) + 1) (1 + ((k / y.l2.length : Nat) : Int) * (y.l2.length : Int) + (((k % y.l2.length : Nat) : Int) + 1)) (sL y.up (y.l2.getD (k % y.l2.length + 1) 0 - y.l2.getD (k % y.l2.length) 0)) (sL y.up (y.l2.getD (k % y.l2.length + 1) 0 - y.l2.getD (k % y.l2.length) 0)) y.r else []
def q4 (k : Nat) : List (List Int) := lK 0 (y.M + 1 + (k : Int)) 1000 1000 y.r
def q5 (i k : Nat) : List (List Int) :=
 if (y.cs.getD i []).getD 1 0 = (y.D.getD k []).getD 0 0 /\ ((y.cs.getD i []).getD 2 0 <= (y.D.getD k []).getD 1 0 /\ (y.D.getD k []).getD 1 0 <= (y.cs.getD i []).getD 3 0) then lK 0 (y.M + 1 + (k : Int)) (-(y.cs.getD i []).getD 4 0) ((y.cs.getD i []).getD 5 0) ((y.cs.getD i []).getD 0 0) else []
def q6 (k : Nat) : List (List Int) :=
 lK (y.M + 1 + (uW [(y.rs.getD k []).getD 5 0, (y.rs.getD k []).getD 6 0] y.D : Int)) (1 + (y.rs.getD k []).getD 1 0 * (y.l2.length : Int) + (y.rs.getD k []).getD 2 0) ((y.rs.getD k []).getD 3 0 + (y.rs.getD k []).getD 4 0) ((y.rs.getD k []).getD 4 0 - (y.rs.getD k []).getD 3 0) ((y.rs.getD k []).getD 0 0)
def b1 : List (List Int) := acc [] y.q1 y.N
def b2 : List (List Int) := acc y.b1 y.q2 y.N
def b3 : List (List Int) := acc y.b2 y.q3 y.N
def b4 : List (List Int) := acc y.b3 y.q4 y.D.length
def b5 : Nat -> List (List Int)
 | 0 => y.b4
 | i + 1 => acc (b5 i) (y.q5 i) y.D.length
def b6 : List (List Int) := acc (y.b5 y.cs.length) y.q6 y.rs.length
theorem L1 (k : Nat) : L4 (y.q1 k) := L4.lm
theorem L2 (k : Nat) : L4 (y.q2 k) := by unfold q2; split; exact L4.lm; exact L4.nil
theorem L3 (k : Nat) : L4 (y.q3 k) := by unfold q3; split; exact L4.lm; exact L4.nil
theorem L5 (i k : Nat) : L4 (y.q5 i k) := by unfold q5; split; exact L4.lm; exact L4.nil
theorem h1 (t : Nat) : L4 (acc [] y.q1 t) := L4.nil.acc y.L1 t
theorem h2 (t : Nat) : L4 (acc y.b1 y.q2 t) := (y.h1 _).acc y.L2 t
theorem h3 (t : Nat) : L4 (acc y.b2 y.q3 t) := (y.h2 _).acc y.L3 t
theorem h4 (t : Nat) : L4 (acc y.b3 y.q4 t) := (y.h3 _).acc (fun _ => L4.lm) t
theorem h5 : ∀ i, L4 (y.b5 i)
 | 0 => y.h4 _
 | i + 1 => (h5 i).acc (y.L5 i) _
theorem h5i (i t : Nat) : L4 (acc (y.b5 i) (y.q5 i) t) := (y.h5 i).acc (y.L5 i) t
theorem h6 (t : Nat) : L4 (acc (y.b5 y.cs.length) y.q6 t) := (y.h5 _).acc (fun _ => L4.lm) t
variable {y}
theorem q2_yes {i k : Nat} (hk : k < y.l2.length) (h : (i : Int) + 1 < (y.l1.length : Int)) : y.q2 (y.l2.length * i + k) = lK (((y.l2.length * i + k : Nat) : Int) + 1) (1 + ((i : Int) + 1) * (y.l2.length : Int) + (k : Int)) (sL y.al (y.l1.getD (i + 1) 0 - y.l1.getD i 0)) (sL y.al (y.l1.getD (i + 1) 0 - y.l1.getD i 0)) y.r := by
 unfold q2;rw [Nat.mul_add_div oM, Nat.mul_add_mod, Nat.div_eq_of_lt hk, Nat.mod_eq_of_lt hk, Nat.add_zero, if_pos h]
theorem q2_no {i k : Nat} (hk : k < y.l2.length) (h : ¬ (i : Int) + 1 < (y.l1.length : Int)) : y.q2 (y.l2.length * i + k) = [] := by
 unfold q2;rw [Nat.mul_add_div oM, Nat.mul_add_mod, Nat.div_eq_of_lt hk, Nat.mod_eq_of_lt hk, Nat.add_zero, if_neg h]
theorem q3_yes {i k : Nat} (hk : k < y.l2.length) (h : (k : Int) + 1 < (y.l2.length : Int)) : y.q3 (y.l2.length * i + k) = lK (((y.l2.length * i + k : Nat) : Int) + 1) (1 + (i : Int) * (y.l2.length : Int) + ((k : Int) + 1)) (sL y.up (y.l2.getD (k + 1) 0 - y.l2.getD k 0)) (sL y.up (y.l2.getD (k + 1) 0 - y.l2.getD k 0)) y.r := by
 unfold q3;rw [Nat.mul_add_div oM, Nat.mul_add_mod, Nat.div_eq_of_lt hk, Nat.mod_eq_of_lt hk, Nat.add_zero, if_pos h]
theorem q3_no {i k : Nat} (hk : k < y.l2.length) (h : ¬ (k : Int) + 1 < (y.l2.length : Int)) : y.q3 (y.l2.length * i + k) = [] := by
 unfold q3;rw [Nat.mul_add_div oM, Nat.mul_add_mod, Nat.div_eq_of_lt hk, Nat.mod_eq_of_lt hk, Nat.add_zero, if_neg h]
theorem getD_of {L : List (List Int)} {k : Nat} {x : List Int} (h : L[k]? = some x) : L.getD k [] = x := by rw [List.getD_eq_getElem?_getD, h]; rfl
theorem q5_yes {i k : Nat} {z0 z1 z2 z3 z4 z5 p q : Int} (hz : y.cs[i]? = some [z0, z1, z2, z3, z4, z5]) (hx : y.D[k]? = some [p, q]) (h : z1 = p /\ z2 <= q /\ q <= z3) : y.q5 i k = lK 0 (y.M + 1 + (k : Int)) (-z4) z5 z0 := by
 unfold q5;rw [getD_of hz, getD_of hx];exact if_pos h
theorem q5_no {i k : Nat} {z0 z1 z2 z3 z4 z5 p q : Int} (hz : y.cs[i]? = some [z0, z1, z2, z3, z4, z5]) (hx : y.D[k]? = some [p, q]) (h : ¬ (z1 = p /\ z2 <= q /\ q <= z3)) : y.q5 i k = [] := by
 unfold q5;rw [getD_of hz, getD_of hx];exact if_neg h
theorem q6_at {k : Nat} {x0 x1 x2 x3 x4 x5 x6 : Int} (hx : y.rs[k]? = some [x0, x1, x2, x3, x4, x5, x6]) : y.q6 k = lK (y.M + 1 + (uW [x5, x6] y.D : Int)) (1 + x1 * (y.l2.length : Int) + x2) (x3 + x4) (x4 - x3) x0 := by
 unfold q6;rw [getD_of hx]; rfl
end Sv
theorem EF {a : Int} (h : 0 <= a /\ a < 9223372036854775808) : -9223372036854775808 <= a.tdiv 1000 /\ a.tdiv 1000 < 9223372036854775808 := by
 rw [Int.tdiv_eq_ediv_of_nonneg h.1]; omega
theorem C3 {x y : Int} (hx : 0 <= x /\ x <= 100000) (hy : 0 <= y /\ y <= 100000) : 0 <= x * y /\ x * y <= 10000000000 :=
 ⟨Int.mul_nonneg hx.1 hy.1, by have := Int.mul_le_mul hx.2 hy.2 hy.1 dE; omega⟩
theorem eM {x y : Int} (hx : 0 <= x /\ x <= 100) (hy : 0 <= y /\ y <= 100) : 0 <= x * y /\ x * y <= 10000 :=
 ⟨Int.mul_nonneg hx.1 hy.1, by have := Int.mul_le_mul hx.2 hy.2 hy.1 dE; omega⟩
theorem gE {x y : Nat} (hx : x <= 9) (hy : y <= 9) : x * y <= 81 := Nat.mul_le_mul hx hy
theorem Obj.whole {s : St} {b e : Nat} {op : Bool} {l : List Value} (h : Obj s b e op l) : oR s b 0 l := h.ats (gK pD).2
/-! Each tape day stands once. -/
theorem nZ {x0 x1 x2 x3 x4 x5 x6 : Int} {rs : List (List Int)} {k : Nat} (h : rs[k]? = some [x0, x1, x2, x3, x4, x5, x6]) : [x5, x6] ∈ dys rs := by
 have h1 : [x5, x6] ∈ dys (rs.take (k + 1)) := by
  rw [xV h]; split
  ·assumption
  ·simp
 have key : ∀ (M D : List (List Int)), [x5, x6] ∈ D -> [x5, x6] ∈ M.foldl eT D := by
  intro M
  induction M with
  | nil => intro D h; exact h
  | cons r M ih =>
   intro D h;refine ih _ ?_;unfold eT; split
   ·exact h
   ·exact List.mem_append_left _ h
 have h2 : dys rs = (rs.drop (k + 1)).foldl eT (dys (rs.take (k + 1))) := by
  unfold dys;rw [<- List.foldl_append, List.take_append_drop]
 rw [h2]; exact key _ _ h1
theorem zU {rs : List (List Int)} : (dys rs).Nodup := by
 have key : ∀ (M D : List (List Int)), D.Nodup -> (M.foldl eT D).Nodup := by
  intro M
  induction M with
  | nil => intro D h; exact h
  | cons r M ih =>
   intro D h;refine ih _ ?_;unfold eT; split
   ·exact h
   ·rename_i hn
    refine List.nodup_append.2 ⟨h, sM, fun a ha b hb => ?_⟩;rw [List.mem_singleton.1 hb]; rintro rfl; exact hn ha
 exact key rs [] List.nodup_nil
theorem C4 {x : List Int} : ∀ {L : List (List Int)} {k : Nat}, L.Nodup -> L[k]? = some x -> uW x L = k
 | [], k, _, h => by simp at h
 | r :: L, 0, _, h => by
  simp only [List.getElem?_cons_zero, Option.some.injEq] at h;unfold uW; rw [if_pos h]
 | r :: L, k + 1, hn, h => by
  have h2 : L[k]? = some x := by simpa using h
  have h3 : ¬ r = x := fun e => (List.nodup_cons.1 hn).1 (e ▸ List.mem_of_getElem? h2)
  unfold uW; rw [if_neg h3, C4 (List.nodup_cons.1 hn).2 h2]
section
variable {X : FuncId -> List Value -> St -> (Value -> St -> Bool) -> Bool}
theorem dP (n : Nat) (d r al up : Int) (a1 a2 : Option Addr) (c1 c2 : Nat) (l1 l2 : List Int) (x y : Int) (s : St) (hs : Wf s) (hn : 0 <= n) (hl1 : aI s a1 l1) (hl2 : aI s a2 l2) (hm : l2.length <= 9) (hx : 0 <= x /\ x <= 9) (hy : 0 <= y /\ y <= 9) : bW Tryz.prog (cA cH) X (n + 40) 49 [.agg ⟨[.int .i64 d, .int .i64 r, .slice a1 l1.length c1, .slice a2 l2.length c2, .int .i64 al, .int .i64 up]⟩, .int .i64 x, .int .i64 y] s (fun v A => v = .int .i64 (1 + x * (l2.length : Int) + y) /\ A = []) := by
 refine enter LH rfl hs ?_;unfold Kw;have hlen1 := hl1.len;have hlen2 := hl2.len;have hq := eM (x := x) (y := (l2.length : Int)) oM oM;refine rS (kO J (bI J J J (fun b1 => (kM J J (Q0 (rS (kM J J (kO J (Q2 J (kO J (Y1 J .here rfl (kO J (aJ J hl2.spot (kO J (bM J J oM (kO J (Y3 J J oM (kM J J (kO J (Y3 J J oM (kM J J (Q0 (V2 ?_)))))))))))))))))))))));exact aV J ⟨rfl, rfl⟩
theorem iB (n : Nat) (d r al up : Int) (a1 a2 : Option Addr) (c1 c2 : Nat) (l1 l2 : List Int) (x y : Int) (s : St) (hs : Wf s) (hn : 0 <= n) (hl1 : aI s a1 l1) (hl2 : aI s a2 l2) (hm : l2.length <= 9) (hx : 0 <= x /\ x <= 9) (hy : 0 <= y /\ y <= 9) : bW Tryz.prog (cA cH) X (n + 40) 47 [.agg ⟨[.int .i64 d, .int .i64 r, .slice a1 l1.length c1, .slice a2 l2.length c2, .int .i64 al, .int .i64 up]⟩, .int .i64 x, .int .i64 y] s (fun v A => v = .int .i64 (1 + x * (l2.length : Int) + y) /\ A = []) := by
 refine enter LF rfl hs ?_;unfold Ks;have hlen1 := hl1.len;have hlen2 := hl2.len;have hq := eM (x := x) (y := (l2.length : Int)) oM oM;refine rS (kO J (bI J J J (fun b1 => (kM J J (Q0 (rS (kM J J (kO J (Q2 J (kO J (Y1 J .here rfl (kO J (aJ J hl2.spot (kO J (bM J J oM (kO J (Y3 J J oM (kM J J (kO J (Y3 J J oM (kM J J (Q0 (V2 ?_)))))))))))))))))))))));exact aV J ⟨rfl, rfl⟩
theorem eY (n : Nat) (d r al up : Int) (a1 a2 : Option Addr) (c1 c2 : Nat) (l1 l2 : List Int) (s : St) (hs : Wf s) (hn : 0 <= n) (hl1 : aI s a1 l1) (hl2 : aI s a2 l2) (hm : l1.length <= 9 /\ l2.length <= 9) : bW Tryz.prog (cA cH) X (n + 40) 56 [.agg ⟨[.int .i64 d, .int .i64 r, .slice a1 l1.length c1, .slice a2 l2.length c2, .int .i64 al, .int .i64 up]⟩] s (fun v A => v = .int .i64 ((l1.length : Int) * (l2.length : Int)) /\ A = []) := by
 refine enter LP rfl hs ?_;unfold KL;have hlen1 := hl1.len;have hlen2 := hl2.len;have hq := eM (x := (l1.length : Int)) (y := (l2.length : Int)) oM oM;refine rS (kO J (bI J J J (fun b1 => (kM J J (Q0 (rS (kO J (Q2 J (kO J (Y1 J .here rfl (kO J (aJ J hl1.spot (kO J (Q2 J (kO J (Y1 J .here rfl (kO J (aJ J hl2.spot (kO J (bM J J oM (kM J J (Q0 (V2 ?_)))))))))))))))))))))));exact aV J ⟨rfl, rfl⟩
theorem zV (n : Nat) (x y : Int) (s : St) (hs : Wf s) (hx : 0 <= x /\ x <= 100000) (hy : 0 <= y /\ y <= 100000) : bW Tryz.prog (cA cH) X (n + 40) 105 [.int .i64 x, .int .i64 y] s (fun v A => v = .int .i64 (sL x y) /\ A = []) := by
 refine enter Hs rfl hs ?_;unfold DK;have hq := C3 hx hy;refine rS (kM J J (Q0 (rS (kM J J (kM J J (kO J (bM J J oM (kO J (Y3 J J oM (kO J (qK J J dE (EF oM) (kO J (sH J (kM J J (Q0 (V2 ?_))))))))))))))));exact aV J ⟨rfl, rfl⟩
theorem sN (n : Nat) (x y : Int) (s : St) (hs : Wf s) (hx : 0 <= x /\ x <= 100000) (hy : 0 <= y /\ y <= 100000) : bW Tryz.prog (cA cH) X (n + 40) 137 [.int .i64 x, .int .i64 y] s (fun v A => v = .int .i64 (sL x y) /\ A = []) := by
 refine enter HC rfl hs ?_;unfold DX;have hq := C3 hx hy;refine rS (kM J J (Q0 (rS (kM J J (kM J J (kO J (bM J J oM (kO J (Y3 J J oM (kO J (qK J J dE (EF oM) (kO J (sH J (kM J J (Q0 (V2 ?_))))))))))))))));exact aV J ⟨rfl, rfl⟩
theorem AL (n : Nat) (a c m y : Int) (s : St) (hs : Wf s) : bW Tryz.prog (cA cH) X (n + 40) 104 [.int .i64 a, .int .i64 c, .int .i64 m, .int .i64 y] s (fun v A => ∃ b, v = .slice (some ⟨b, 0, none⟩) 2 2 /\ A = [.row b 107 false (aL (lK a c m m y))]) := by
 refine enter Hr rfl hs ?_;unfold DJ;refine rS (kM J J (Q0 (rS (kM J J (kM J J (kM J J (kM J J (kO J (Z6 J J (kM J J (kM J J (kM J J (kM J J (kO J (Z6 J J (kO J (bO J J J (fun b1 => (kM J J (Q0 (V2 ?_)))))))))))))))))))));exact fI J (.q .slnil) ⟨b1, rfl, rfl⟩
theorem Mg (n : Nat) (z0 z1 z2 z3 z4 z5 dt de f : Int) (s : St) (hs : Wf s) (h4 : -1000 <= z4 /\ z4 <= 1000) : bW Tryz.prog (cA cH) X (n + 60) 106 [.agg ⟨[.int .i64 z0, .int .i64 z1, .int .i64 z2, .int .i64 z3, .int .i64 z4, .int .i64 z5]⟩, .agg ⟨[.int .i64 dt, .int .i64 de]⟩, .int .i64 f] s (fun v A => (¬ (z1 = dt /\ z2 <= de /\ de <= z3) /\ v = .slice none 0 0 /\ A = []) ∨ ((z1 = dt /\ z2 <= de /\ de <= z3) /\ ∃ b, v = .slice (some ⟨b, 0, none⟩) 2 2 /\ A = [.row b 107 false (aL (lK 0 f (-z4) z5 z0))])) := by
 refine enter Ht rfl hs ?_;unfold DL;refine rS (kO J (bI J J J (fun b1 => (kO J (bI J J J (fun b2 => (kM J J (Q0 (rQ (rS (kO J (Q2 J (kO J (Y1 J .h1 J (kO J (Q2 J (kO J (Y1 J .here rfl (kO J (V3 J J (fun h3 => ?_) (fun h3 => ?_)))))))))))))))))))))
 ·refine kM J J (V0 J J (V0 J J (V0 J J (V0 J J (V0 J J (kO J (W2 J J J (kM J J (V0 J J (V0 J J (V0 J J (V0 J J (V0 J J (kO J (W2 J J J (Q0 (Y0 J (rS (kM J J (Q0 (V2 (W3 ?_))))))))))))))))))))))
  exact fI J (List.nil_sublist _) (.inl ⟨oM, rfl, rfl⟩)
 ·refine kM J J (kG J J (Q2 J (kG J J (Y1 J .here rfl (kG J J (Q2 J (kG J J (Y1 J .h1 J (kG J J (W5 J J (fun h4 => ?_) (fun h4 => ?_)))))))))))
  ·refine kO J (U1 J J J (kM J J (V0 J J (V0 J J (V0 J J (V0 J J (V0 J J (kO J (W2 J J J (Q0 (Y0 J (rS (kM J J (Q0 (V2 (W3 ?_))))))))))))))))
   exact fI J (List.nil_sublist _) (.inl ⟨oM, rfl, rfl⟩)
  ·refine kO J (U1 J J J (kM J J (kG J J (Q2 J (kG J J (Y1 J .here rfl (kG J J (Q2 J (kG J J (Y1 J .h1 J (kG J J (fP J J (fun h5 => ?_) (fun h5 => ?_)))))))))))))
   ·refine kO J (U1 J J J (Q0 (Y0 J (rS (kM J J (Q0 (V2 (W3 ?_))))))))
    exact fI J (List.nil_sublist _) (.inl ⟨oM, rfl, rfl⟩)
   ·refine kO J (U1 J J J (Q0 (U0 J (Q1 (W0 (rS (kM J J (kO J (Q2 J (kO J (Y1 J .h1 J (kO J (MT J oM (kO J (Q2 J (kO J (Y1 J .h1 J (kO J (Z6 J J (kM J J (kO J (Q2 J (kO J (Y1 J .h1 J (kO J (Q2 J (kO J (Y1 J .h1 J (kO J (Z6 J J (kO J (bO J J J (fun b6 => (kM J J (Q0 (V2 ?_))))))))))))))))))))))))))))))))))))
    exact fI J (.q (.cons _ (.cons _ .slnil))) (.inr ⟨oM, b6, rfl, rfl⟩)
theorem rB (n : Nat) (bs : Nat) (a1 a2 : Option Addr) (c1 c2 : Nat) (l1 l2 : List Int) (s : St) (hs : Wf s) (hl1 : aI s a1 l1) (hl2 : aI s a2 l2) (hs2 : At s bs 2 (.slice a1 l1.length c1)) (hs3 : At s bs 3 (.slice a2 l2.length c2)) (hm : l1.length <= 9 /\ l2.length <= 9) : bW Tryz.prog (cA cH) X (n + 60) 80 [.pointer (some ⟨bs, 0, none⟩)] s (fun v A => v = .int .i64 ((l1.length : Int) * (l2.length : Int)) /\ A = []) := by
 refine enter LY rfl hs ?_;unfold KZ;have hlen1 := hl1.len;have hlen2 := hl2.len;have hq := eM (x := (l1.length : Int)) (y := (l2.length : Int)) oM oM;refine rS (kM J J (Q0 (rS (kM J J (kO J (W4 J (kO J (Q2 J (kO J (Q2 J (kO J (Q2 J (kO J (W6 J aM (kO J (aJ J (by first | exact hl1.spot | exact hl2.spot) (kM J J (kO J (W4 J (kO J (Q2 J (kO J (Q2 J (kO J (Q2 J (kO J (W6 J aM (kO J (aJ J (by first | exact hl1.spot | exact hl2.spot) (kO J (bM J J oM (kM J J (Q0 (V2 ?_))))))))))))))))))))))))))))))))));exact aV J ⟨rfl, rfl⟩
theorem C5 (n : Nat) (bs : Nat) (a1 a2 : Option Addr) (c1 c2 : Nat) (l1 l2 : List Int) (ad : Option Addr) (cd : Nat) (D : List (List Int)) (dt de : Int) (s : St) (hs : Wf s) (hl1 : aI s a1 l1) (hl2 : aI s a2 l2) (hs2 : At s bs 2 (.slice a1 l1.length c1)) (hs3 : At s bs 3 (.slice a2 l2.length c2)) (hm : l1.length <= 9 /\ l2.length <= 9) (hn : 281474976710656 <= n) (h10 : At s bs 10 (.slice ad D.length cd)) (hL : RowsE s 2 ad D) (h60 : D.length <= 60) : bW Tryz.prog (cA cH) X (n + 200) 85 [.pointer (some ⟨bs, 0, none⟩), .agg ⟨[.int .i64 dt, .int .i64 de]⟩] s (fun v A => v = .tuple #[.int .i64 (if [dt, de] ∈ D then (l1.length : Int) * (l2.length : Int) + 1 + (uW [dt, de] D : Int) else 0), .bool (decide ([dt, de] ∈ D))] /\ A = []) := by
 refine enter LZ rfl hs ?_;unfold K2;have hlen1 := hl1.len;have hlen2 := hl2.len;have hq := eM (x := (l1.length : Int)) (y := (l2.length : Int)) oM oM;refine rS (kO J (bI J J J (fun b1 => (kM J J (kM J J (Q0 (rQ (rS (kM J J (kO J (W4 J (kO J (Q2 J (kO J (W6 J aM (kO J (aJ J hL.spot (kM J J (Q0 (W1 (U4 (fun j e A => ∃ (k : Nat), e = [(0, .pointer (some ⟨bs, 0, none⟩)), (3, .pointer (some ⟨b1, 0, none⟩)), (11, .slice ad D.length cd), (12, .int .i64 (D.length : Int)), (13, .int .i64 (k : Int))] /\ A = (.row b1 86 false ([.int .i64 dt, .int .i64 de]) :: []) /\ j = D.length - k /\ k <= D.length /\ [dt, de] ∉ D.take k) 150 0 281474976710656 ?_ (j := _) (env2 := _) (A2 := _) ?_ ?_ ?_ ?_ ⟨0, rfl, rfl, rfl, Nat.zero_le _, sM⟩)))))))))))))))))))))
 rotate_left
 ·omega
 ·omega
 ·exact lL
 ·exact (.q .slnil)
 rintro n hn j _ _ ⟨k, rfl, rfl, rfl, hk, hm5⟩;refine rS (kO J (W5 J J (fun h2 => ?_) (fun h2 => ?_)))
 ·obtain ⟨q2, o2, p, q, ahL, hx, hat, i0, i1⟩ := hL.row2 (k := k) oM
  have hat2 := hat;obtain ⟨d0, d1, _⟩ := hat2;refine Q0 (rQ (Y0 J (Q1 (W0 (rQ (W1 (rS (kM J J (kO J (bK (j := k) ahL rfl rfl (by first | rfl | omega) (by first | decide | omega) (kO J (cV J dE aM J (kO J (bG J J (fun b3 => (kM J J (kZ J (Q6 J J .here rfl rfl rfl rfl (Q0 (rS (kO J (V4 J dE .here rfl (kO J (V4 J dE .h1 J (kO J (BL J J ⟨Me _ _ _ _, rfl⟩ (fun h4 => ?_) (fun h4 => ?_)))))))))))))))))))))))))))
  ·refine Q0 (Y0 J (rS (kM J J (kO J (aH J J (fun s1 h1 => rB _ _ _ _ _ _ _ _ s1 h1.wf (hl1.ext hs h1.2.1) (hl2.ext hs h1.2.1) (h1.at hs2) (h1.at hs3) hm) (kO J (Y3 J J oM (kM J J (kO J (Y3 J J oM (kM J J (kM J J (Q0 (V2 (Y6 (W3 (W3 (Y6 (W3 (tR J J ⟨?_, rfl⟩))))))))))))))))))))
   first
    | (have hmm := C2 hm5 oM; rw [if_neg hmm, decide_eq_false hmm]; done)
    | (have he := of_decide_eq_true (by assumption : decide _ = true); have hmm : [dt, de] ∈ D := (he ▸ List.mem_of_getElem? hx); rw [if_pos hmm, decide_eq_true hmm, vO hm5 (he ▸ hx)]; done)
  ·refine Q0 (U0 J (Q1 (Z1 (W0 (rI (kO J (Y3 J J oM (kM J J (Q0 (W0 ?_))))))))))
   exact ⟨rfl, _, _, _, (show D.length - (k + 1) < D.length - k from oM), lL, (.cons _ (.q .slnil)), ⟨k + 1, rfl, rfl, rfl, oM, AI hm5 hx (fun q => absurd q.symm (of_decide_eq_false aM))⟩⟩
 ·refine Q0 (rQ (U0 J (Y4 (Z2 (Z2 (Q3 (W0 (rS (kM J J (kM J J (Q0 (V2 (tR J J ⟨?_, rfl⟩)))))))))))))
  first
   | (have hmm := C2 hm5 oM; rw [if_neg hmm, decide_eq_false hmm]; done)
   | (have he := of_decide_eq_true (by assumption : decide _ = true); have hmm : [dt, de] ∈ D := (he ▸ List.mem_of_getElem? hx); rw [if_pos hmm, decide_eq_true hmm, vO hm5 (he ▸ hx)]; done)
end
end Ev
end Go.Proofs.YtjkdkpckjgaplaaGreat
