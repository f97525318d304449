import Derived.Test.YtjkdkpckjgaplaaGreatZh09
import Derived.ProofKit
import Derived.OpenShut
set_option linter.unusedVariables false
set_option linter.unusedSimpArgs false
namespace Go.Proofs.YtjkdkpckjgaplaaGreat
open Go Go.RowKit
namespace Ev
theorem Mc {lo hi hi2 : Int} (h : hi <= hi2) {l : List Int} (hi' : sI lo hi l = true) : sI lo hi2 l = true := by
 unfold sI at *;rw [List.all_eq_true] at *;intro x hx;have := hi' x hx;simp at this ⊢;omega
def bA (l1 l2 : List Int) : Bool := eX 9 100000 l1 && eX 7 15000 l2
theorem mQ {l1 l2 : List Int} (h : eX 9 100000 l1 = false) : bA l1 l2 = false := by unfold bA; rw [h]; rfl
theorem mR {l1 l2 : List Int} (h : eX 9 100000 l2 = false) : bA l1 l2 = false := by
 unfold bA;rw [Bool.and_eq_false_iff];refine .inr ?_;cases hb : eX 7 15000 l2 with
 | false => rfl
 | true =>
  unfold eX at h hb;rw [Bool.and_eq_true, Bool.and_eq_true] at hb;obtain ⟨⟨h1, h2⟩, h3⟩ := hb;have h1 := of_decide_eq_true h1;rw [decide_eq_true oM, Mc dE h2, h3] at h;exact h
theorem cZ {l1 l2 : List Int} (h : ¬ (l2.length : Int) <= 7) : bA l1 l2 = false := by
 unfold bA; rw [gM (m := 7) oM]; simp
theorem pF {l1 l2 : List Int} (h : sI 0 15000 l2 = false) : bA l1 l2 = false := by
 unfold bA; rw [gN (hi := 15000) h]; simp
theorem lG {l1 l2 : List Int} (h : eX 9 100000 l1 = true) (h2 : eX 9 100000 l2 = true) (h3 : (l2.length : Int) <= 7) (h4 : sI 0 15000 l2 = true) : bA l1 l2 = true := by
 unfold bA;rw [h];unfold eX at h2 ⊢;rw [Bool.and_eq_true, Bool.and_eq_true] at h2;obtain ⟨⟨h1, _⟩, h5⟩ := h2;have h1 := of_decide_eq_true h1;rw [decide_eq_true oM, h4, h5]; rfl
def vM (a b : Int) : Int := if max a b = 1 * min a b then 1 else if max a b = 2 * min a b then 2 else if max a b = 3 * min a b then 3 else 0
theorem zQ (a b : Int) : vM a b = 0 ∨ vM a b = 1 ∨ vM a b = 2 ∨ vM a b = 3 := by
 unfold vM; (repeat' split) <;> decide
section
variable {X : FuncId -> List Value -> St -> (Value -> St -> Bool) -> Bool}
theorem BQ (n : Nat) (a1 a2 : Option Addr) (c1 c2 : Nat) (l1 l2 : List Int) (s : St) (hs : Wf s) (hn : 844424930131968 <= n) (hl1 : aI s a1 l1) (hl2 : aI s a2 l2) : bW Tryz.prog (cA cH) X (n + 300) 101 [.slice a1 l1.length c1, .slice a2 l2.length c2] s (fun v A => v = .int .i64 (if bA l1 l2 = true then 0 else 12) /\ A = []) := by
 refine enter Ho rfl hs ?_;unfold DG;have hlen1 := hl1.len;have hlen2 := hl2.len;refine rS (kM J J (Q0 (rQ (rS (kM J J (kO J (gL J J (fun s1 h1 => qM _ _ _ _ s1 h1.wf oM (hl1.ext hs h1.2.1)) (fun h1 => ?_) (fun h1 => ?_))))))))
 ·refine kM J J (Q0 (rS (kM J J (kO J (V3 J J (fun h => absurd h dE) (fun _ => (Q0 (U0 J (Q1 (W0 (rQ (rS (kM J J (kO J (gL J J (fun s1 h1 => qM _ _ _ _ s1 h1.wf oM (hl2.ext hs h1.2.1)) (fun h3 => ?_) (fun h3 => ?_))))))))))))))))
  ·refine kM J J (Q0 (rS (kM J J (kO J (V3 J J (fun h => absurd h dE) (fun _ => (Q0 (U0 J (Q1 (W0 (rQ (rS (kM J J (kO J (aJ J hl2.spot (kO J (fP J J (fun h5 => ?_) (fun h5 => ?_))))))))))))))))))
   ·refine kM J J (V0 J J (V0 J J (V0 J J (kO J (W2 J J J (Q0 (Y0 J (rS (kM J J (Q0 (V2 (W3 (aV J ⟨congrArg (Value.int .i64) ?_, rfl⟩)))))))))))))
    first
     | (rw [mQ (by simpa using (by assumption : ¬ eX 9 100000 l1 = true))]; rfl)
     | (rw [mR (by simpa using (by assumption : ¬ eX 9 100000 l2 = true))]; rfl)
     | (rw [cZ oM]; rfl)
     | (rw [pF aM]; rfl)
     | (rw [lG aM aM oM aM]; rfl)
   ·refine kM J J (kG J J (U2 J (kG J J (AB J J (fun s1 h1 => BP _ _ _ _ _ _ s1 h1.wf oM (hl2.ext hs h1.2.1)) (fun h6 => ?_) (fun h6 => ?_)))))
    ·refine kG J J (U6 J (kO J (U1 J J J (Q0 (U0 J (Q1 (W0 (rS (kM J J (Q0 (V2 (aV J ⟨congrArg (Value.int .i64) ?_, rfl⟩))))))))))))
     first
      | (rw [mQ (by simpa using (by assumption : ¬ eX 9 100000 l1 = true))]; rfl)
      | (rw [mR (by simpa using (by assumption : ¬ eX 9 100000 l2 = true))]; rfl)
      | (rw [cZ oM]; rfl)
      | (rw [pF aM]; rfl)
      | (rw [lG aM aM oM aM]; rfl)
    ·refine kG J J (U6 J (kO J (U1 J J J (Q0 (Y0 J (rS (kM J J (Q0 (V2 (W3 (aV J ⟨congrArg (Value.int .i64) ?_, rfl⟩)))))))))))
     first
      | (rw [mQ (by simpa using (by assumption : ¬ eX 9 100000 l1 = true))]; rfl)
      | (rw [mR (by simpa using (by assumption : ¬ eX 9 100000 l2 = true))]; rfl)
      | (rw [cZ oM]; rfl)
      | (rw [pF aM]; rfl)
      | (rw [lG aM aM oM aM]; rfl)
  ·refine kM J J (Q0 (rS (kM J J (kO J (V3 J J (fun _ => (Q0 (Y0 J (rS (kM J J (kM J J (Q0 (V2 (W3 (aV J ⟨congrArg (Value.int .i64) ?_, rfl⟩)))))))))) (fun h => absurd h dE))))))
   first
    | (rw [mQ (by simpa using (by assumption : ¬ eX 9 100000 l1 = true))]; rfl)
    | (rw [mR (by simpa using (by assumption : ¬ eX 9 100000 l2 = true))]; rfl)
    | (rw [cZ oM]; rfl)
    | (rw [pF aM]; rfl)
    | (rw [lG aM aM oM aM]; rfl)
 ·refine kM J J (Q0 (rS (kM J J (kO J (V3 J J (fun _ => (Q0 (Y0 J (rS (kM J J (kM J J (Q0 (V2 (W3 (aV J ⟨congrArg (Value.int .i64) ?_, rfl⟩)))))))))) (fun h => absurd h dE))))))
  first
   | (rw [mQ (by simpa using (by assumption : ¬ eX 9 100000 l1 = true))]; rfl)
   | (rw [mR (by simpa using (by assumption : ¬ eX 9 100000 l2 = true))]; rfl)
   | (rw [cZ oM]; rfl)
   | (rw [pF aM]; rfl)
   | (rw [lG aM aM oM aM]; rfl)
theorem pG (n : Nat) (a : Option Addr) (cap : Nat) (l : List Int) (s : St) (hs : Wf s) (hn : 562949953421312 <= n) (hl : aI s a l) : bW Tryz.prog (cA cH) X (n + 300) 53 [.slice a l.length cap] s (fun v A => v = .int .i64 (if eX 9 100000 l = true then 0 else 12) /\ A = []) := by
 refine enter LL rfl hs ?_;unfold KE;have hlen := hl.len;refine rS (kM J J (Q0 (rQ (rS (kM J J (kO J (AB J J (fun s1 h1 => H1 _ _ _ _ _ _ s1 h1.wf oM dE (hl.ext hs h1.2.1)) (fun h1 => ?_) (fun h1 => ?_))))))))
 ·refine kO J (U6 J (Q0 (U0 J (Q1 (W0 (rS (kM J J (Q0 (V2 (aV J ⟨congrArg (Value.int .i64) ?_, rfl⟩))))))))))
  first
   | exact (if_pos aM).symm
   | exact (if_neg (by simp [*])).symm
 ·refine kO J (U6 J (Q0 (Y0 J (rS (kM J J (Q0 (V2 (W3 (aV J ⟨congrArg (Value.int .i64) ?_, rfl⟩)))))))))
  first
   | exact (if_pos aM).symm
   | exact (if_neg (by simp [*])).symm
theorem sJ (n : Nat) (a b : Int) (s : St) (hs : Wf s) (ha : 0 < a /\ a <= 100000) (hb : 0 < b /\ b <= 100000) : bW Tryz.prog (cA cH) X (n + 100) 213 [.int .i64 a, .int .i64 b] s (fun v A => v = .int .i64 (vM a b) /\ A = []) := by
 refine enter HQ rfl hs ?_;unfold Ef;refine rS (kM J J (Q0 (rS (kM J J (kM J J (kO J (sH J (kM J J (kM J J (kO J (HR J (kM J J (kM J J (Q0 (rQ (rS (kM J J (Q0 (W1 (bJ (rQ (rS (kM J J (kO J (fG J J (fun _ => (Q0 ?_)) (fun h => absurd h dE))))))))))))))))))))))))));refine Y0 J (Q1 (W0 (rQ (W1 (rS (kM J J (kM J J (kM J J (kO J (bM J J oM (kO J (bS J J (fun h2 => ?_) (fun h2 => ?_)))))))))))))
 ·refine Q0 (Y0 J (rS (kM J J (kM J J (Q0 (V2 (Y6 (W3 (W3 (Y6 (W3 (aV J ⟨congrArg (Value.int .i64) ?_, rfl⟩))))))))))))
  unfold vM
  first
   | exact (if_pos oM).symm
   | (rw [if_neg oM]; exact (if_pos oM).symm)
   | (rw [if_neg oM, if_neg oM]; exact (if_pos oM).symm)
   | (rw [if_neg oM, if_neg oM]; exact (if_neg oM).symm)
 ·refine Q0 (U0 J (Q1 (Z1 (W0 (rI (kM J J (kO J (Y3 J J dE (kM J J (Q0 (W0 (bJ (rQ (rS (kM J J (kO J (fG J J (fun _ => (Q0 (Y0 J (Q1 (W0 (rQ (W1 (rS (kM J J ?_))))))))) (fun h => absurd h dE))))))))))))))))))
  refine kM J J (kM J J (kO J (bM J J oM (kO J (bS J J (fun h4 => ?_) (fun h4 => ?_))))))
  ·refine Q0 (Y0 J (rS (kM J J (kM J J (Q0 (V2 (Y6 (W3 (W3 (Y6 (W3 (aV J ⟨congrArg (Value.int .i64) ?_, rfl⟩))))))))))))
   unfold vM
   first
    | exact (if_pos oM).symm
    | (rw [if_neg oM]; exact (if_pos oM).symm)
    | (rw [if_neg oM, if_neg oM]; exact (if_pos oM).symm)
    | (rw [if_neg oM, if_neg oM]; exact (if_neg oM).symm)
  ·refine Q0 (U0 J (Q1 (Z1 (W0 (rI (kM J J (kO J (Y3 J J dE (kM J J (Q0 (W0 (bJ (rQ (rS (kM J J (kO J (fG J J (fun _ => (Q0 (Y0 J (Q1 (W0 (rQ (W1 (rS (kM J J ?_))))))))) (fun h => absurd h dE))))))))))))))))))
   refine kM J J (kM J J (kO J (bM J J oM (kO J (bS J J (fun h6 => ?_) (fun h6 => ?_))))))
   ·refine Q0 (Y0 J (rS (kM J J (kM J J (Q0 (V2 (Y6 (W3 (W3 (Y6 (W3 (aV J ⟨congrArg (Value.int .i64) ?_, rfl⟩))))))))))))
    unfold vM
    first
     | exact (if_pos oM).symm
     | (rw [if_neg oM]; exact (if_pos oM).symm)
     | (rw [if_neg oM, if_neg oM]; exact (if_pos oM).symm)
     | (rw [if_neg oM, if_neg oM]; exact (if_neg oM).symm)
   ·refine Q0 (U0 J (Q1 (Z1 (W0 (rI (kM J J (kO J (Y3 J J dE (kM J J (Q0 (W0 (bJ (rQ (rS (kM J J (kO J (fG J J (fun h => absurd h dE) (fun _ => (Q0 (U0 J (Y4 (Z2 (Z2 (Q3 (W0 (rS ?_))))))))))))))))))))))))))
    refine kM J J (Q0 (V2 (aV J ⟨congrArg (Value.int .i64) ?_, rfl⟩)));unfold vM
    first
     | exact (if_pos oM).symm
     | (rw [if_neg oM]; exact (if_pos oM).symm)
     | (rw [if_neg oM, if_neg oM]; exact (if_pos oM).symm)
     | (rw [if_neg oM, if_neg oM]; exact (if_neg oM).symm)
end
def many (l : List Int) (i : Nat) : Nat := if i + 2 < l.length /\ vM (l.getD (i + 1) 0 - l.getD i 0) (l.getD (i + 2) 0 - l.getD (i + 1) 0) ≠ 0 then 2 else 1
theorem eR {l : List Int} {i : Nat} (h : i + 2 < l.length) (h2 : ¬ vM (l.getD (i + 1) 0 - l.getD i 0) (l.getD (i + 2) 0 - l.getD (i + 1) 0) = 0) : many l i = 2 := if_pos ⟨h, h2⟩
theorem fD {l : List Int} {i : Nat} (h : ¬ i + 2 < l.length) : many l i = 1 := if_neg (fun q => h q.1)
theorem dL {l : List Int} {i : Nat} (h : vM (l.getD (i + 1) 0 - l.getD i 0) (l.getD (i + 2) 0 - l.getD (i + 1) 0) = 0) : many l i = 1 := if_neg (fun q => q.2 h)
theorem dN {l : List Int} {i : Nat} (h : i + 2 < l.length) (h2 : 0 < vM (l.getD (i + 1) 0 - l.getD i 0) (l.getD (i + 2) 0 - l.getD (i + 1) 0)) : many l i = 2 := eR h oM
theorem eA {l : List Int} {i : Nat} (h : ¬ 0 < vM (l.getD (i + 1) 0 - l.getD i 0) (l.getD (i + 2) 0 - l.getD (i + 1) 0)) : many l i = 1 := dL (by have := zQ (l.getD (i + 1) 0 - l.getD i 0) (l.getD (i + 2) 0 - l.getD (i + 1) 0); omega)
theorem lH (l : List Int) (i : Nat) : many l i = 1 ∨ many l i = 2 := by unfold many; split <;> simp
def jJ (l : List Int) (i : Nat) : List (Nat × Nat) := if h : i + 1 < l.length then (i, many l i) :: jJ l (i + many l i) else []
termination_by l.length - i
decreasing_by have := lH l i; omega
theorem PO {l : List Int} {i : Nat} (hi : i + 1 < l.length) : jJ l i = (i, many l i) :: jJ l (i + many l i) := by rw [jJ, dif_pos hi]
theorem N6 {l : List Int} {i : Nat} (hi : l.length <= i + 1) : jJ l i = [] := by rw [jJ, dif_neg oM]
theorem gP {l : List Int} {G : List (Nat × Nat)} {i m : Nat} (h : jJ l 0 = G ++ jJ l i) (hi : i + 1 < l.length) (hm : many l i = m) : jJ l 0 = (G ++ [(i, m)]) ++ jJ l (i + m) := by
 rw [h, PO hi, hm]; simp
theorem pH {l : List Int} {G : List (Nat × Nat)} {i : Nat} (h : jJ l 0 = G ++ jJ l i) (hi : l.length <= i + 1) : jJ l 0 = G := by
 rw [h, N6 hi]; simp
def lU (G : List (Nat × Nat)) : List Value := G.flatMap fun p => [.int .i64 (p.1 : Int), .int .i64 (p.2 : Int)]
theorem fZ {G : List (Nat × Nat)} : (lU G).length = G.length * 2 := by
 induction G with
 | nil => rfl
 | cons p G ih => simp [lU] at ih ⊢; omega
theorem gA {G H : List (Nat × Nat)} : lU (G ++ H) = lU G ++ lU H := by simp [lU]
theorem FG {G : List (Nat × Nat)} : ∀ {k : Nat} {p : Nat × Nat}, G[k]? = some p -> (lU G)[k * 2]? = some (.int .i64 (p.1 : Int)) /\ (lU G)[k * 2 + 1]? = some (.int .i64 (p.2 : Int)) := by
 induction G with
 | nil => intro k p h; simp at h
 | cons q G ih =>
  intro k p h;cases k with
  | zero => simp at h; subst h; exact ⟨rfl, rfl⟩
  | succ k =>
   have := ih (k := k) (p := p) (by simpa using h);rw [show (k + 1) * 2 = k * 2 + 2 by omega];exact this
theorem MV {l : List Int} : ∀ (f i : Nat), l.length <= i + f -> ∀ p ∈ jJ l i, p.1 + p.2 < l.length /\ many l p.1 = p.2
 | 0, i, hf, p, hp => by rw [jJ, dif_neg oM] at hp; cases hp
 | f + 1, i, hf, p, hp => by
  rw [jJ] at hp;by_cases hi : i + 1 < l.length
  ·rw [dif_pos hi] at hp
   have hm := lH l i;rcases List.mem_cons.1 hp with rfl | hp
   ·refine ⟨?_, rfl⟩
    show i + many l i < l.length;unfold many;split <;> omega
   ·exact MV f (i + many l i) oM p hp
  ·rw [dif_neg hi] at hp; cases hp
theorem AE {l : List Int} : ∀ (f i : Nat), l.length <= i + f -> (jJ l i).length <= f
 | 0, i, hf => by rw [jJ, dif_neg oM]; simp
 | f + 1, i, hf => by
  rw [jJ];by_cases hi : i + 1 < l.length
  ·rw [dif_pos hi]
   have hm := lH l i;have := AE (l := l) f (i + many l i) oM;simp; omega
  ·rw [dif_neg hi]; simp
section
variable {X : FuncId -> List Value -> St -> (Value -> St -> Bool) -> Bool}
theorem CZ (n : Nat) (a : Option Addr) (cap : Nat) (l : List Int) (s : St) (hs : Wf s) (hn : 281474976710656 <= n) (hl : aI s a l) (hp : FY 9 100000 l) : bW Tryz.prog (cA cH) X (n + 300) 203 [.slice a l.length cap] s (fun v A => ∃ b, v = .slice (some ⟨b, 0, none⟩) (jJ l 0).length OPEN /\ A = [.row b 245 true (lU (jJ l 0))]) := by
 refine enter HN rfl hs ?_;unfold Ec;have hlen := hl.len;have z0 := hp.lo (0);have z1 := hp.lo (1);have z2 := hp.lo (2);have r0 : 1 < l.length -> l.getD (0) 0 < l.getD (1) 0 := fun h => hp.rise _ h
 have r1 : 2 < l.length -> l.getD (1) 0 < l.getD (2) 0 := fun h => hp.rise _ h
 have hm9 := hp.hm;have h29 := hp.h2;refine rS (kM J J (Q0 (rS (kM J J (Q0 (rQ (rS (kM J J (Q0 (W1 (bJ (rQ (rS (kM J J (kO J (Y3 J J dE (kM J J (kO J (aJ J hl.spot (kO J (W5 J J (fun h1 => ?_) (fun h1 => ?_))))))))))))))))))))))
 ·refine Q0 (Y0 J (Q1 (W0 (W1 (rS (kM J J (Q0 (rQ (rS (kM J J (kO J (Y3 J J dE (kM J J (kO J (aJ J hl.spot (kO J (W5 J J (fun h2 => ?_) (fun h2 => ?_))))))))))))))))))
  ·refine kM J J (kG J J (U2 J (kG J J (U2 J (kG J J (Y3 J J dE (kG J J (Q7 (j := 1) hl rfl rfl oM (by first | rfl | omega) oM (fun _ _ a3 => (kG J J (W6 J (hl.at a3 oM) (kG J J (U2 J (kG J J (U2 J (kG J J (Q7 (j := 0) hl rfl rfl oM (by first | rfl | omega) oM (fun _ _ a4 => (kG J J (W6 J (hl.at a4 oM) (kG J J (bX J J oM (kG J J (U2 J (kG J J (U2 J (kG J J (Y3 J J dE (kG J J (Q7 (j := 2) hl rfl rfl oM (by first | rfl | omega) oM (fun _ _ a5 => (kG J J (W6 J (hl.at a5 oM) (kG J J (U2 J (kG J J (U2 J (kG J J (Y3 J J dE (kG J J (Q7 (j := 1) hl rfl rfl oM (by first | rfl | omega) oM (fun _ _ a6 => (kG J J (W6 J (hl.at a6 oM) (kG J J (bX J J oM (kG J J (aH J J (fun s1 h1 => sJ _ _ _ s1 h1.wf oM oM) (kG J J (V3 J J (fun h7 => ?_) (fun h7 => ?_)))))))))))))))))))))))))))))))))))))))))))))))))))
   ·refine kO J (W2 J J J (Q0 (Y0 J (rI (kM J J (Q0 (W0 (rS (kM J J (kM J J (kM J J (kO J (Z6 J J (kO J (bO J J J (fun b8 => (kO J (jP J J (iG.own .here rfl sM) dE oM oM (fun b9 => (kM J J (Q0 (rI (kM J J (kM J J (kO J (Y3 J J dE (kM J J (Q0 (Z1 (W0 ?_))))))))))))))))))))))))))))))
    refine U4 (fun j e A => ∃ (i b : Nat) (G : List (Nat × Nat)), e = [(0, .slice a l.length cap), (4, .int .i64 (i : Int)), (3, .slice (some ⟨b, 0, none⟩) G.length OPEN)] /\ A = (.row b 245 true (lU G) :: []) /\ j = l.length - i /\ i <= l.length /\ jJ l 0 = G ++ jJ l i /\ G.length <= i) 160 0 281474976710656 ?_ (j := _) (env2 := _) (A2 := _) ?_ ?_ ?_ ?_ ⟨2, b9, [(0, 2)], rfl, rfl, rfl, oM, (gP (G := []) (i := 0) J oM (by first | exact eR oM aM | exact fD oM | exact dL aM | exact dN oM aM | exact eA aM)), sM⟩
    rotate_left
    ·omega
    ·omega
    ·exact lL
    ·exact (.q (.cons _ .slnil))
    rintro n hn j _ _ ⟨i, b, G, rfl, rfl, rfl, hi, hG, hGl⟩;have z0 := hp.lo (i);have z1 := hp.lo (i + 1);have z2 := hp.lo (i + 2);have r0 : i + 1 < l.length -> l.getD (i) 0 < l.getD (i + 1) 0 := fun h => hp.rise _ h
    have r1 : i + 2 < l.length -> l.getD (i + 1) 0 < l.getD (i + 2) 0 := fun h => hp.rise _ h
    have hm9 := hp.hm;have h29 := hp.h2;refine rQ (rS (kM J J (kO J (Y3 J J oM (kM J J (kO J (aJ J hl.spot (kO J (W5 J J (fun h10 => ?_) (fun h10 => ?_))))))))))
    ·refine Q0 (Y0 J (Q1 (W0 (W1 (rS (kM J J (Q0 (rQ (rS (kM J J (kO J (Y3 J J oM (kM J J (kO J (aJ J hl.spot (kO J (W5 J J (fun h11 => ?_) (fun h11 => ?_))))))))))))))))))
     ·refine kM J J (kG J J (U2 J (kG J J (U2 J (kG J J (Y3 J J oM (kG J J (Q7 (j := i + 1) hl rfl rfl oM (by first | rfl | omega) oM (fun _ _ a12 => (kG J J (W6 J (hl.at a12 oM) (kG J J (U2 J (kG J J (U2 J (kG J J (Q7 (j := i) hl rfl rfl oM (by first | rfl | omega) oM (fun _ _ a13 => (kG J J (W6 J (hl.at a13 oM) (kG J J (bX J J oM (kG J J (U2 J (kG J J (U2 J (kG J J (Y3 J J oM (kG J J (Q7 (j := i + 2) hl rfl rfl oM (by first | rfl | omega) oM (fun _ _ a14 => (kG J J (W6 J (hl.at a14 oM) (kG J J (U2 J (kG J J (U2 J (kG J J (Y3 J J oM (kG J J (Q7 (j := i + 1) hl rfl rfl oM (by first | rfl | omega) oM (fun _ _ a15 => (kG J J (W6 J (hl.at a15 oM) (kG J J (bX J J oM (kG J J (aH J J (fun s1 h1 => sJ _ _ _ s1 h1.wf oM oM) (kG J J (V3 J J (fun h16 => ?_) (fun h16 => ?_)))))))))))))))))))))))))))))))))))))))))))))))))))
      ·refine kO J (W2 J J J (Q0 (Y0 J (rI (kM J J (Q0 (W0 (rS (kM J J (kM J J (kM J J (kO J (Z6 J J (kO J (bO J J J (fun b17 => (kO J (dI J J (iG.own .here rfl sM) .h1 (by rw [fZ]) (.inl ⟨rfl, rfl⟩) dE oM oM (fun b18 => (kM J J (Q0 (rI (kM J J (kM J J (kO J (Y3 J J oM (kM J J (Q0 (Z1 (W0 ?_))))))))))))))))))))))))))))))
       exact ⟨rfl, _, _, _, (show l.length - (i + 2) < l.length - i from oM), (lc 0 J (lc 4 J (lc 3 J gH.nil))), (.q (.cons _ .slnil)), ⟨i + 2, b18, G ++ [(i, 2)], sM, (by rw [gA]; rfl), rfl, oM, (gP hG oM (by first | exact eR oM aM | exact fD oM | exact dL aM | exact dN oM aM | exact eA aM)), (by simp; omega)⟩⟩
      ·refine kO J (W2 J J J (Q0 (U0 J (Q1 (W0 (rS (kM J J (kM J J (kM J J (kO J (Z6 J J (kO J (bO J J J (fun b19 => (kO J (dI J J (iG.own .here rfl sM) .h1 (by rw [fZ]) (.inl ⟨rfl, rfl⟩) dE oM oM (fun b20 => (kM J J (Q0 (rI (kM J J (kM J J (kO J (Y3 J J oM (kM J J (Q0 (Z1 (W0 ?_))))))))))))))))))))))))))))
       exact ⟨rfl, _, _, _, (show l.length - (i + 1) < l.length - i from oM), (lc 0 J (lc 4 J (lc 3 J gH.nil))), (.q (.cons _ .slnil)), ⟨i + 1, b20, G ++ [(i, 1)], sM, (by rw [gA]; rfl), rfl, oM, (gP hG oM (by first | exact eR oM aM | exact fD oM | exact dL aM | exact dN oM aM | exact eA aM)), (by simp; omega)⟩⟩
     ·refine kM J J (V0 J J (V0 J J (V0 J J (V0 J J (V0 J J (V0 J J (V0 J J (V0 J J (V0 J J (V0 J J (V0 J J (V0 J J (V0 J J (V0 J J (V0 J J (V0 J J (V0 J J (V0 J J (V0 J J (V0 J J (V0 J J (V0 J J (V0 J J ?_)))))))))))))))))))))))
      refine kO J (U1 J J J (Q0 (U0 J (Q1 (W0 (rS (kM J J (kM J J (kM J J (kO J (Z6 J J (kO J (bO J J J (fun b21 => (kO J (dI J J (iG.own .here rfl sM) .h1 (by rw [fZ]) (.inl ⟨rfl, rfl⟩) dE oM oM (fun b22 => (kM J J (Q0 (rI (kM J J (kM J J (kO J (Y3 J J oM (kM J J (Q0 (Z1 (W0 ?_))))))))))))))))))))))))))));exact ⟨rfl, _, _, _, (show l.length - (i + 1) < l.length - i from oM), (lc 0 J (lc 4 J (lc 3 J gH.nil))), (.q (.cons _ .slnil)), ⟨i + 1, b22, G ++ [(i, 1)], sM, (by rw [gA]; rfl), rfl, oM, (gP hG oM (by first | exact eR oM aM | exact fD oM | exact dL aM | exact dN oM aM | exact eA aM)), (by simp; omega)⟩⟩
    ·refine Q0 (U0 J (Y4 (Z2 (Z2 (Q3 (W0 (rS (kM J J (kM J J (Q0 (V2 ?_)))))))))))
     first
      | exact fI J (.refl _) ⟨b, by rw [pH hG oM], by rw [pH hG oM]⟩
      | (exfalso; omega)
   ·refine kO J (W2 J J J (Q0 (U0 J (Q1 (W0 (rS (kM J J (kM J J (kM J J (kO J (Z6 J J (kO J (bO J J J (fun b23 => (kO J (jP J J (iG.own .here rfl sM) dE oM oM (fun b24 => (kM J J (Q0 (rI (kM J J (kM J J (kO J (Y3 J J dE (kM J J (Q0 (Z1 (W0 ?_))))))))))))))))))))))))))))
    refine U4 (fun j e A => ∃ (i b : Nat) (G : List (Nat × Nat)), e = [(0, .slice a l.length cap), (4, .int .i64 (i : Int)), (3, .slice (some ⟨b, 0, none⟩) G.length OPEN)] /\ A = (.row b 245 true (lU G) :: []) /\ j = l.length - i /\ i <= l.length /\ jJ l 0 = G ++ jJ l i /\ G.length <= i) 160 0 281474976710656 ?_ (j := _) (env2 := _) (A2 := _) ?_ ?_ ?_ ?_ ⟨1, b24, [(0, 1)], rfl, rfl, rfl, oM, (gP (G := []) (i := 0) J oM (by first | exact eR oM aM | exact fD oM | exact dL aM | exact dN oM aM | exact eA aM)), sM⟩
    rotate_left
    ·omega
    ·omega
    ·exact lL
    ·exact (.q (.cons _ .slnil))
    rintro n hn j _ _ ⟨i, b, G, rfl, rfl, rfl, hi, hG, hGl⟩;have z0 := hp.lo (i);have z1 := hp.lo (i + 1);have z2 := hp.lo (i + 2);have r0 : i + 1 < l.length -> l.getD (i) 0 < l.getD (i + 1) 0 := fun h => hp.rise _ h
    have r1 : i + 2 < l.length -> l.getD (i + 1) 0 < l.getD (i + 2) 0 := fun h => hp.rise _ h
    have hm9 := hp.hm;have h29 := hp.h2;refine rQ (rS (kM J J (kO J (Y3 J J oM (kM J J (kO J (aJ J hl.spot (kO J (W5 J J (fun h25 => ?_) (fun h25 => ?_))))))))))
    ·refine Q0 (Y0 J (Q1 (W0 (W1 (rS (kM J J (Q0 (rQ (rS (kM J J (kO J (Y3 J J oM (kM J J (kO J (aJ J hl.spot (kO J (W5 J J (fun h26 => ?_) (fun h26 => ?_))))))))))))))))))
     ·refine kM J J (kG J J (U2 J (kG J J (U2 J (kG J J (Y3 J J oM (kG J J (Q7 (j := i + 1) hl rfl rfl oM (by first | rfl | omega) oM (fun _ _ a27 => (kG J J (W6 J (hl.at a27 oM) (kG J J (U2 J (kG J J (U2 J (kG J J (Q7 (j := i) hl rfl rfl oM (by first | rfl | omega) oM (fun _ _ a28 => (kG J J (W6 J (hl.at a28 oM) (kG J J (bX J J oM (kG J J (U2 J (kG J J (U2 J (kG J J (Y3 J J oM (kG J J (Q7 (j := i + 2) hl rfl rfl oM (by first | rfl | omega) oM (fun _ _ a29 => (kG J J (W6 J (hl.at a29 oM) (kG J J (U2 J (kG J J (U2 J (kG J J (Y3 J J oM (kG J J (Q7 (j := i + 1) hl rfl rfl oM (by first | rfl | omega) oM (fun _ _ a30 => (kG J J (W6 J (hl.at a30 oM) (kG J J (bX J J oM (kG J J (aH J J (fun s1 h1 => sJ _ _ _ s1 h1.wf oM oM) (kG J J (V3 J J (fun h31 => ?_) (fun h31 => ?_)))))))))))))))))))))))))))))))))))))))))))))))))))
      ·refine kO J (W2 J J J (Q0 (Y0 J (rI (kM J J (Q0 (W0 (rS (kM J J (kM J J (kM J J (kO J (Z6 J J (kO J (bO J J J (fun b32 => (kO J (dI J J (iG.own .here rfl sM) .h1 (by rw [fZ]) (.inl ⟨rfl, rfl⟩) dE oM oM (fun b33 => (kM J J (Q0 (rI (kM J J (kM J J (kO J (Y3 J J oM (kM J J (Q0 (Z1 (W0 ?_))))))))))))))))))))))))))))))
       exact ⟨rfl, _, _, _, (show l.length - (i + 2) < l.length - i from oM), (lc 0 J (lc 4 J (lc 3 J gH.nil))), (.q (.cons _ .slnil)), ⟨i + 2, b33, G ++ [(i, 2)], sM, (by rw [gA]; rfl), rfl, oM, (gP hG oM (by first | exact eR oM aM | exact fD oM | exact dL aM | exact dN oM aM | exact eA aM)), (by simp; omega)⟩⟩
      ·refine kO J (W2 J J J (Q0 (U0 J (Q1 (W0 (rS (kM J J (kM J J (kM J J (kO J (Z6 J J (kO J (bO J J J (fun b34 => (kO J (dI J J (iG.own .here rfl sM) .h1 (by rw [fZ]) (.inl ⟨rfl, rfl⟩) dE oM oM (fun b35 => (kM J J (Q0 (rI (kM J J (kM J J (kO J (Y3 J J oM (kM J J (Q0 (Z1 (W0 ?_))))))))))))))))))))))))))))
       exact ⟨rfl, _, _, _, (show l.length - (i + 1) < l.length - i from oM), (lc 0 J (lc 4 J (lc 3 J gH.nil))), (.q (.cons _ .slnil)), ⟨i + 1, b35, G ++ [(i, 1)], sM, (by rw [gA]; rfl), rfl, oM, (gP hG oM (by first | exact eR oM aM | exact fD oM | exact dL aM | exact dN oM aM | exact eA aM)), (by simp; omega)⟩⟩
     ·refine kM J J (V0 J J (V0 J J (V0 J J (V0 J J (V0 J J (V0 J J (V0 J J (V0 J J (V0 J J (V0 J J (V0 J J (V0 J J (V0 J J (V0 J J (V0 J J (V0 J J (V0 J J (V0 J J (V0 J J (V0 J J (V0 J J (V0 J J (V0 J J ?_)))))))))))))))))))))))
      refine kO J (U1 J J J (Q0 (U0 J (Q1 (W0 (rS (kM J J (kM J J (kM J J (kO J (Z6 J J (kO J (bO J J J (fun b36 => (kO J (dI J J (iG.own .here rfl sM) .h1 (by rw [fZ]) (.inl ⟨rfl, rfl⟩) dE oM oM (fun b37 => (kM J J (Q0 (rI (kM J J (kM J J (kO J (Y3 J J oM (kM J J (Q0 (Z1 (W0 ?_))))))))))))))))))))))))))));exact ⟨rfl, _, _, _, (show l.length - (i + 1) < l.length - i from oM), (lc 0 J (lc 4 J (lc 3 J gH.nil))), (.q (.cons _ .slnil)), ⟨i + 1, b37, G ++ [(i, 1)], sM, (by rw [gA]; rfl), rfl, oM, (gP hG oM (by first | exact eR oM aM | exact fD oM | exact dL aM | exact dN oM aM | exact eA aM)), (by simp; omega)⟩⟩
    ·refine Q0 (U0 J (Y4 (Z2 (Z2 (Q3 (W0 (rS (kM J J (kM J J (Q0 (V2 ?_)))))))))))
     first
      | exact fI J (.refl _) ⟨b, by rw [pH hG oM], by rw [pH hG oM]⟩
      | (exfalso; omega)
  ·refine kM J J (V0 J J (V0 J J (V0 J J (V0 J J (V0 J J (V0 J J (V0 J J (V0 J J (V0 J J (V0 J J (V0 J J (V0 J J (V0 J J (V0 J J (V0 J J (V0 J J (V0 J J (V0 J J (V0 J J (V0 J J (V0 J J (V0 J J (V0 J J ?_)))))))))))))))))))))))
   refine kO J (U1 J J J (Q0 (U0 J (Q1 (W0 (rS (kM J J (kM J J (kM J J (kO J (Z6 J J (kO J (bO J J J (fun b38 => (kO J (jP J J (iG.own .here rfl sM) dE oM oM (fun b39 => (kM J J (Q0 (rI (kM J J (kM J J (kO J (Y3 J J dE (kM J J (Q0 (Z1 (W0 ?_))))))))))))))))))))))))))));refine U4 (fun j e A => ∃ (i b : Nat) (G : List (Nat × Nat)), e = [(0, .slice a l.length cap), (4, .int .i64 (i : Int)), (3, .slice (some ⟨b, 0, none⟩) G.length OPEN)] /\ A = (.row b 245 true (lU G) :: []) /\ j = l.length - i /\ i <= l.length /\ jJ l 0 = G ++ jJ l i /\ G.length <= i) 160 0 281474976710656 ?_ (j := _) (env2 := _) (A2 := _) ?_ ?_ ?_ ?_ ⟨1, b39, [(0, 1)], rfl, rfl, rfl, oM, (gP (G := []) (i := 0) J oM (by first | exact eR oM aM | exact fD oM | exact dL aM | exact dN oM aM | exact eA aM)), sM⟩
   rotate_left
   ·omega
   ·omega
   ·exact lL
   ·exact (.q (.cons _ .slnil))
   rintro n hn j _ _ ⟨i, b, G, rfl, rfl, rfl, hi, hG, hGl⟩;have z0 := hp.lo (i);have z1 := hp.lo (i + 1);have z2 := hp.lo (i + 2);have r0 : i + 1 < l.length -> l.getD (i) 0 < l.getD (i + 1) 0 := fun h => hp.rise _ h
   have r1 : i + 2 < l.length -> l.getD (i + 1) 0 < l.getD (i + 2) 0 := fun h => hp.rise _ h
   have hm9 := hp.hm;have h29 := hp.h2;refine rQ (rS (kM J J (kO J (Y3 J J oM (kM J J (kO J (aJ J hl.spot (kO J (W5 J J (fun h40 => ?_) (fun h40 => ?_))))))))))
   ·refine Q0 (Y0 J (Q1 (W0 (W1 (rS (kM J J (Q0 (rQ (rS (kM J J (kO J (Y3 J J oM (kM J J (kO J (aJ J hl.spot (kO J (W5 J J (fun h41 => ?_) (fun h41 => ?_))))))))))))))))))
    ·refine kM J J (kG J J (U2 J (kG J J (U2 J (kG J J (Y3 J J oM (kG J J (Q7 (j := i + 1) hl rfl rfl oM (by first | rfl | omega) oM (fun _ _ a42 => (kG J J (W6 J (hl.at a42 oM) (kG J J (U2 J (kG J J (U2 J (kG J J (Q7 (j := i) hl rfl rfl oM (by first | rfl | omega) oM (fun _ _ a43 => (kG J J (W6 J (hl.at a43 oM) (kG J J (bX J J oM (kG J J (U2 J (kG J J (U2 J (kG J J (Y3 J J oM (kG J J (Q7 (j := i + 2) hl rfl rfl oM (by first | rfl | omega) oM (fun _ _ a44 => (kG J J (W6 J (hl.at a44 oM) (kG J J (U2 J (kG J J (U2 J (kG J J (Y3 J J oM (kG J J (Q7 (j := i + 1) hl rfl rfl oM (by first | rfl | omega) oM (fun _ _ a45 => (kG J J (W6 J (hl.at a45 oM) (kG J J (bX J J oM (kG J J (aH J J (fun s1 h1 => sJ _ _ _ s1 h1.wf oM oM) (kG J J (V3 J J (fun h46 => ?_) (fun h46 => ?_)))))))))))))))))))))))))))))))))))))))))))))))))))
     ·refine kO J (W2 J J J (Q0 (Y0 J (rI (kM J J (Q0 (W0 (rS (kM J J (kM J J (kM J J (kO J (Z6 J J (kO J (bO J J J (fun b47 => (kO J (dI J J (iG.own .here rfl sM) .h1 (by rw [fZ]) (.inl ⟨rfl, rfl⟩) dE oM oM (fun b48 => (kM J J (Q0 (rI (kM J J (kM J J (kO J (Y3 J J oM (kM J J (Q0 (Z1 (W0 ?_))))))))))))))))))))))))))))))
      exact ⟨rfl, _, _, _, (show l.length - (i + 2) < l.length - i from oM), (lc 0 J (lc 4 J (lc 3 J gH.nil))), (.q (.cons _ .slnil)), ⟨i + 2, b48, G ++ [(i, 2)], sM, (by rw [gA]; rfl), rfl, oM, (gP hG oM (by first | exact eR oM aM | exact fD oM | exact dL aM | exact dN oM aM | exact eA aM)), (by simp; omega)⟩⟩
     ·refine kO J (W2 J J J (Q0 (U0 J (Q1 (W0 (rS (kM J J (kM J J (kM J J (kO J (Z6 J J (kO J (bO J J J (fun b49 => (kO J (dI J J (iG.own .here rfl sM) .h1 (by rw [fZ]) (.inl ⟨rfl, rfl⟩) dE oM oM (fun b50 => (kM J J (Q0 (rI (kM J J (kM J J (kO J (Y3 J J oM (kM J J (Q0 (Z1 (W0 ?_))))))))))))))))))))))))))))
      exact ⟨rfl, _, _, _, (show l.length - (i + 1) < l.length - i from oM), (lc 0 J (lc 4 J (lc 3 J gH.nil))), (.q (.cons _ .slnil)), ⟨i + 1, b50, G ++ [(i, 1)], sM, (by rw [gA]; rfl), rfl, oM, (gP hG oM (by first | exact eR oM aM | exact fD oM | exact dL aM | exact dN oM aM | exact eA aM)), (by simp; omega)⟩⟩
    ·refine kM J J (V0 J J (V0 J J (V0 J J (V0 J J (V0 J J (V0 J J (V0 J J (V0 J J (V0 J J (V0 J J (V0 J J (V0 J J (V0 J J (V0 J J (V0 J J (V0 J J (V0 J J (V0 J J (V0 J J (V0 J J (V0 J J (V0 J J (V0 J J ?_)))))))))))))))))))))))
     refine kO J (U1 J J J (Q0 (U0 J (Q1 (W0 (rS (kM J J (kM J J (kM J J (kO J (Z6 J J (kO J (bO J J J (fun b51 => (kO J (dI J J (iG.own .here rfl sM) .h1 (by rw [fZ]) (.inl ⟨rfl, rfl⟩) dE oM oM (fun b52 => (kM J J (Q0 (rI (kM J J (kM J J (kO J (Y3 J J oM (kM J J (Q0 (Z1 (W0 ?_))))))))))))))))))))))))))));exact ⟨rfl, _, _, _, (show l.length - (i + 1) < l.length - i from oM), (lc 0 J (lc 4 J (lc 3 J gH.nil))), (.q (.cons _ .slnil)), ⟨i + 1, b52, G ++ [(i, 1)], sM, (by rw [gA]; rfl), rfl, oM, (gP hG oM (by first | exact eR oM aM | exact fD oM | exact dL aM | exact dN oM aM | exact eA aM)), (by simp; omega)⟩⟩
   ·refine Q0 (U0 J (Y4 (Z2 (Z2 (Q3 (W0 (rS (kM J J (kM J J (Q0 (V2 ?_)))))))))))
    first
     | exact fI J (.refl _) ⟨b, by rw [pH hG oM], by rw [pH hG oM]⟩
     | (exfalso; omega)
 ·refine Q0 (U0 J (Y4 (Z2 (Z2 (Q3 (W0 (rS (kM J J (kM J J (Q0 (V2 ?_)))))))))))
  first
   | exact fI J (.refl _) ⟨_, by rw [pH hG oM], by rw [pH hG oM]⟩
   | (exfalso; omega)
end
theorem Er {l : List Int} {i : Nat} (h : many l i = 2) : ¬ vM (l.getD (i + 1) 0 - l.getD i 0) (l.getD (i + 2) 0 - l.getD (i + 1) 0) = 0 := fun q => by
 rw [dL q] at h; cases h
theorem Es {a b : Int} (h : ¬ vM a b = 0) : vM a b = 1 ∨ vM a b = 2 ∨ vM a b = 3 := by
 rcases zQ a b with q | q
 ·exact absurd q h
 ·exact q
def BR (l w : List Int) (i : Nat) : List Int :=
 (w.set i (w.getD i 0 + 18 * (l.getD (i + 1) 0 - l.getD i 0))).set (i + 1) (w.getD (i + 1) 0 + 18 * (l.getD (i + 1) 0 - l.getD i 0))
def Et (a b k : Int) : Int := Int.tdiv 6 k * (1 + k) * min a b
def gD (l w : List Int) (i : Nat) (k : Int) : List Int :=
 let c := Et (l.getD (i + 1) 0 - l.getD i 0) (l.getD (i + 2) 0 - l.getD (i + 1) 0) k
 if l.getD (i + 2) 0 - l.getD (i + 1) 0 < l.getD (i + 1) 0 - l.getD i 0 then
  ((w.set i (w.getD i 0 + c * (2 * k - 1))).set (i + 1) (w.getD (i + 1) 0 + c * (1 + k) * (1 + k))).set (i + 2) (w.getD (i + 2) 0 + c * k * (2 - k))
 else ((w.set i (w.getD i 0 + c * k * (2 - k))).set (i + 1) (w.getD (i + 1) 0 + c * (1 + k) * (1 + k))).set (i + 2) (w.getD (i + 2) 0 + c * (2 * k - 1))
def qN (l w : List Int) (p : Nat × Nat) : List Int :=
 if p.2 = 1 then BR l w p.1 else gD l w p.1 (vM (l.getD (p.1 + 1) 0 - l.getD p.1 0) (l.getD (p.1 + 2) 0 - l.getD (p.1 + 1) 0))
def W (l : List Int) (k : Nat) : List Int := ((jJ l 0).take k).foldl (qN l) (List.replicate l.length 0)
def I5 (l : List Int) : List Int := (jJ l 0).foldl (qN l) (List.replicate l.length 0)
theorem H2 {l w : List Int} {p : Nat × Nat} : (qN l w p).length = w.length := by
 unfold qN BR gD;split
 ·simp
 ·split <;> simp
theorem C0 {l : List Int} {k : Nat} {p : Nat × Nat} (h : (jJ l 0)[k]? = some p) : W l (k + 1) = qN l (W l k) p := by
 unfold W;rw [List.take_add_one, h, List.foldl_append]; rfl
theorem xQ {l : List Int} {k i m : Nat} (h : (jJ l 0)[k]? = some (i, m)) (hm : m = 1) : W l (k + 1) = BR l (W l k) i := by
 rw [C0 h]; unfold qN; rw [if_pos hm]
theorem lV {l : List Int} {k i m : Nat} {r : Int} (h : (jJ l 0)[k]? = some (i, m)) (hm : m = 2) (hr : vM (l.getD (i + 1) 0 - l.getD i 0) (l.getD (i + 2) 0 - l.getD (i + 1) 0) = r) : W l (k + 1) = gD l (W l k) i r := by
 rw [C0 h]; unfold qN; rw [if_neg (by show ¬ m = 1; omega)]; show gD l (W l k) i (vM _ _) = _; rw [hr]
theorem eE {l : List Int} : ∀ {k : Nat}, (W l k).length = l.length := by
 have key : ∀ (G : List (Nat × Nat)) (w : List Int), (G.foldl (qN l) w).length = w.length := by
  intro G
  induction G with
  | nil => intro w; rfl
  | cons p G ih => intro w; rw [List.foldl_cons, ih, H2]
 intro k;unfold W;rw [key]; simp
theorem H3 {l : List Int} {k : Nat} (h : (jJ l 0).length <= k) : W l k = I5 l := by unfold W I5; rw [List.take_of_length_le h]
theorem Eu {l : List Int} : (I5 l).length = l.length := by rw [<- H3 (Nat.le_refl _)]; exact eE
def Bd (w : List Int) (M : Int) : Prop := ∀ j, -M <= w.getD j 0 /\ w.getD j 0 <= M
theorem lI {w : List Int} {M : Int} {i : Nat} {v : Int} (h : Bd w M) (hv : -M <= v /\ v <= M) : Bd (w.set i v) M := by
 intro j;by_cases hij : i = j
 ·subst hij
  by_cases hi : i < w.length
  ·have : (w.set i v).getD i 0 = v := by simp [List.getD_eq_getElem?_getD, hi]
   rw [this]; exact hv
  ·rw [List.set_eq_of_length_le oM]; exact h i
 ·rw [getD_set_ne hij]; exact h j
theorem Md {l w : List Int} {p : Nat × Nat} {M : Int} (hp : FY 9 100000 l) (hin : p.1 + p.2 < l.length) (hm : many l p.1 = p.2) (h0 : 0 <= M) (h : Bd w M) : Bd (qN l w p) (M + 20000000) := by
 have hN : Bd w (M + 20000000) := fun j => by have := h j; omega
 obtain ⟨i, m⟩ := p;have z0 := hp.lo i;have z1 := hp.lo (i + 1);have z2 := hp.lo (i + 2);have b0 := h i;have b1 := h (i + 1);have b2 := h (i + 2);have hm' : many l i = m := hm;have hin' : i + m < l.length := hin;unfold qN;rcases lH l i with q | q
 ·rw [if_pos (by show m = 1; omega)]
  show Bd (BR l w i) _;unfold BR;exact lI (lI hN oM) oM
 ·rw [if_neg (by show ¬ m = 1; omega)]
  have r0 := hp.rise i oM;have r1 := hp.rise (i + 1) oM;show Bd (gD l w i (vM _ _)) _;rcases Es (Er q) with hk | hk | hk
  ·rw [hk]
   unfold gD;have hu : Et (l.getD (i + 1) 0 - l.getD i 0) (l.getD (i + 2) 0 - l.getD (i + 1) 0) 1 = 12 * min (l.getD (i + 1) 0 - l.getD i 0) (l.getD (i + 2) 0 - l.getD (i + 1) 0) := rfl;rw [hu];split <;> exact lI (lI (lI hN oM) oM) oM
  ·rw [hk]
   unfold gD;have hu : Et (l.getD (i + 1) 0 - l.getD i 0) (l.getD (i + 2) 0 - l.getD (i + 1) 0) 2 = 9 * min (l.getD (i + 1) 0 - l.getD i 0) (l.getD (i + 2) 0 - l.getD (i + 1) 0) := rfl;rw [hu];split <;> exact lI (lI (lI hN oM) oM) oM
  ·rw [hk]
   unfold gD;have hu : Et (l.getD (i + 1) 0 - l.getD i 0) (l.getD (i + 2) 0 - l.getD (i + 1) 0) 3 = 8 * min (l.getD (i + 1) 0 - l.getD i 0) (l.getD (i + 2) 0 - l.getD (i + 1) 0) := rfl;rw [hu];split <;> exact lI (lI (lI hN oM) oM) oM
theorem H4 {l : List Int} {k : Nat} {p : Nat × Nat} (h : (jJ l 0)[k]? = some p) : p.1 + p.2 < l.length /\ many l p.1 = p.2 := MV l.length 0 oM p (List.mem_of_getElem? h)
theorem FH {l : List Int} (hp : FY 9 100000 l) : ∀ k : Nat, Bd (W l k) (20000000 * (k : Int))
 | 0 => fun j => by
  have : (W l 0).getD j 0 = 0 := by
   show (List.replicate l.length (0 : Int)).getD j 0 = 0;rw [List.getD_eq_getElem?_getD, List.getElem?_replicate];split <;> rfl
  rw [this]; omega
 | k + 1 => by
  cases hk : (jJ l 0)[k]? with
  | none =>
   have h1 : W l (k + 1) = W l k := by unfold W; rw [List.take_add_one, hk]; simp
   rw [h1];intro j;have := FH hp k j;omega
  | some p =>
   rw [C0 hk];obtain ⟨h1, h2⟩ := H4 hk;have := Md hp h1 h2 oM (FH hp k);intro j;have := this j;omega
theorem H5 {l : List Int} (hp : FY 9 100000 l) : Bd (I5 l) 200000000 := by
 intro j;have h1 := FH hp (jJ l 0).length j;rw [H3 (Nat.le_refl _)] at h1;have := AE (l := l) l.length 0 oM;have := hp.hm;omega
theorem H6 {α : Type} {l : List α} {k : Nat} (h : k < l.length) : ∃ p, l[k]? = some p := ⟨l[k], List.getElem?_eq_getElem h⟩
theorem FI {G : List (Nat × Nat)} {k i m : Nat} (h : G[k]? = some (i, m)) : iS (lU G) (0 + k * 2) 2 = some [.int .i64 (i : Int), .int .i64 (m : Int)] := by
 obtain ⟨h1, h2⟩ := FG h;rw [Nat.zero_add];simp only [iS, h1, h2]
section
variable {X : FuncId -> List Value -> St -> (Value -> St -> Bool) -> Bool}
theorem uU (n : Nat) (a : Option Addr) (cap : Nat) (l : List Int) (s : St) (hs : Wf s) (hn : 562949953421312 <= n) (hl : aI s a l) (hp : FY 9 100000 l) : bW Tryz.prog (cA cH) X (n + 900) 151 [.slice a l.length cap] s (fun v A => ∃ b, v = .slice (some ⟨b, 0, none⟩) l.length l.length /\ A = [.row b 3 false (ints (I5 l))]) := by
 refine enter HF rfl hs ?_;unfold D0;have hlen := hl.len;have hm9 := hp.hm;have hG9 := AE (l := l) l.length 0 oM;refine rS (kM J J (Q0 (rS (kM J J (kO J (aJ J hl.spot (kO J (CY J J oM oM oM (fun b1 => (kO J (Z6 J J (kO J (bG J J (fun b2 => (kZ J (Q6 J J .here rfl rfl rfl rfl (Q0 (rS (kM J J (kO J (nN J J (kG J J (bN J J HL rfl ?_)))))))))))))))))))))));unfold Ea;refine rS (kM J J (kO J (Z4 J J (fun s1 h1 => CZ _ _ _ _ s1 h1.wf oM (hl.ext hs h1.2.1) hp) (fun v1 A1 q1 => ?_))));obtain ⟨b3, rfl, rfl⟩ := q1;refine kO J (dO J (kM J J (Q0 (W1 (U4 (fun j e A => ∃ (k : Nat), e = [(0, .slice a l.length cap), (1, .func (.func 187) ⟨[.pointer (some ⟨b2, 0, none⟩)]⟩ ⟨[]⟩), (7, .slice (some ⟨b3, 0, none⟩) (jJ l 0).length OPEN), (8, .int .i64 ((jJ l 0).length : Int)), (9, .int .i64 (k : Int))] /\ A = (.row b3 245 true (lU (jJ l 0)) :: (.row b2 238 false ([.slice (some ⟨b1, 0, none⟩) l.length l.length, .slice none 0 0, .int .i64 0]) :: (.row b1 3 false (ints (W l k)) :: []))) /\ j = (jJ l 0).length - k /\ k <= (jJ l 0).length) 400 0 281474976710656 ?_ (j := _) (env2 := _) (A2 := _) ?_ ?_ ?_ ?_ ⟨0, rfl, rfl, rfl, oM⟩)))))
 rotate_left
 ·omega
 ·omega
 ·exact lL
 ·exact (.q (.q (.q .slnil)))
 rintro n hn j _ _ ⟨k, rfl, rfl, rfl, hkl⟩;refine rS (kO J (W5 J J (fun h4 => ?_) (fun h4 => ?_)))
 ·obtain ⟨⟨i, m⟩, hgk⟩ := H6 (l := jJ l 0) (k := k) oM
  obtain ⟨hin, hmm⟩ := H4 hgk;simp only at hin hmm;have hmc := lH l i;have z0 := hp.lo (i);have z1 := hp.lo (i + 1);have z2 := hp.lo (i + 2);have r0 : i + 1 < l.length -> l.getD (i) 0 < l.getD (i + 1) 0 := fun h => hp.rise _ h
  have r1 : i + 2 < l.length -> l.getD (i + 1) 0 < l.getD (i + 2) 0 := fun h => hp.rise _ h
  have hm9 := hp.hm;have h29 := hp.h2;have b0 := FH hp k i;have b1 := FH hp k (i + 1);have b2 := FH hp k (i + 2);have hG9 := AE (l := l) l.length 0 oM;refine Q0 (rQ (Y0 J (Q1 (W0 (rQ (W1 (rS (kO J (Z3 (j := k) J J oM oM (kO J (V4 J dE .here (FI hgk) (kO J (bG J J (fun b5 => (kZ J (Q6 J J .here rfl rfl rfl rfl (Q0 (rS (kO J (Q2 J (kO J (Y1 J .here rfl (kO J (bS J J (fun h6 => ?_) (fun h6 => ?_)))))))))))))))))))))))))
  ·have hm1 : m = 1 := oM
   refine Q0 (Y0 J (rI (kM J J (kO J (Q2 J (kO J (Y1 J .here rfl (kM J J (kG J J (bN J J HO rfl ?_))))))))));unfold Ed;refine rS (kM J J (kM J J (kO J (Y3 J J oM (kO J (Q7 (j := i + 1) hl rfl rfl oM (by first | rfl | omega) oM (fun _ _ a7 => (kO J (W6 J (hl.at a7 oM) (kM J J (kM J J (kO J (Q7 (j := i) hl rfl rfl oM (by first | rfl | omega) oM (fun _ _ a8 => (kO J (W6 J (hl.at a8 oM) (kO J (bX J J oM (kO J (bM J J oM (kM J J (Q0 (rS (kM J J (kM J J (kM J J (kG J J (bN J J cY rfl ?_))))))))))))))))))))))))))));unfold fQ;refine rI (kM J J (kO J (W4 J (kO J (Q2 J (kO J (Y1 J .h2 J (kM J J (kO J (Z3 (j := i) J J oM oM (kO J (Q5 (x := (W l k).getD (i) 0) J .h3 (by simp [eE]; omega) (by first | rfl | (rw [getD_set_ne oM, getD_set_ne oM]; done) | (rw [getD_set_ne oM]; done)) (kM J J (kO J (Y3 J J oM (kO J (Z3 (j := i) J J oM oM (kZ J (W7 J J .h3 (by first | omega | (simp; done) | (simp [eE]; omega) | (simp; omega)) (Q0 (aZ .nil (Q0 (rI (kM J J (kM J J (kO J (Y3 J J oM (kM J J (kG J J (bN J J cY rfl ?_))))))))))))))))))))))))))))));unfold fQ;refine rI (kM J J (kO J (W4 J (kO J (Q2 J (kO J (Y1 J .h2 J (kM J J (kO J (Z3 (j := i + 1) J J oM oM (kO J (Q5 (x := (W l k).getD (i + 1) 0) J .h3 (by simp [eE]; omega) (by first | rfl | (rw [getD_set_ne oM, getD_set_ne oM]; done) | (rw [getD_set_ne oM]; done)) (kM J J (kO J (Y3 J J oM (kO J (Z3 (j := i + 1) J J oM oM (kZ J (W7 J J .h3 (by first | omega | (simp; done) | (simp [eE]; omega) | (simp; omega)) (Q0 (aZ .nil (Q0 (aZ .nil (Q0 (Z1 (W0 (rI (kO J (Y3 J J oM (kM J J (Q0 (W0 ?_))))))))))))))))))))))))))))))));exact ⟨rfl, _, _, _, (show (jJ l 0).length - (k + 1) < (jJ l 0).length - k from oM), lL, (.cons _ (.q (.q (.q .slnil)))), ⟨k + 1, rfl, (by first
    | (rw [xQ hgk hm1]; first | done | rfl)
    | (rw [lV hgk hm2 hk]; unfold gD; dsimp only; rw [if_pos aM]; first | done | rfl)
    | (rw [lV hgk hm2 hk]; unfold gD; dsimp only; rw [if_neg aM]; first | done | rfl)), rfl, oM⟩⟩
  ·have hm2 : m = 2 := oM
   have hrat := Er (hmm.trans hm2);refine Q0 (U0 J (rI (kM J J (kO J (Q2 J (kO J (Y1 J .here rfl (kM J J (kG J J (bN J J HP rfl ?_))))))))));unfold Ee;refine rS (kM J J (kM J J (kO J (Y3 J J oM (kO J (Q7 (j := i + 1) hl rfl rfl oM (by first | rfl | omega) oM (fun _ _ a9 => (kO J (W6 J (hl.at a9 oM) (kM J J (kM J J (kO J (Q7 (j := i) hl rfl rfl oM (by first | rfl | omega) oM (fun _ _ a10 => (kO J (W6 J (hl.at a10 oM) (kO J (bX J J oM (kM J J (kM J J (kO J (Y3 J J oM (kO J (Q7 (j := i + 2) hl rfl rfl oM (by first | rfl | omega) oM (fun _ _ a11 => (kO J (W6 J (hl.at a11 oM) (kM J J (kM J J (kO J (Y3 J J oM (kO J (Q7 (j := i + 1) hl rfl rfl oM (by first | rfl | omega) oM (fun _ _ a12 => (kO J (W6 J (hl.at a12 oM) (kO J (bX J J oM (kM J J (kM J J ?_))))))))))))))))))))))))))))))))))))))));refine Q0 (rS (kM J J (kM J J (kO J (Z4 J J (fun s1 h1 => sJ _ _ _ s1 h1.wf oM oM) (fun v1 A1 q1 => ?_))))));obtain ⟨rfl, rfl⟩ := q1;rcases Es hrat with hk | hk | hk
   ·rw [hk]
    refine kM J J (Q0 (rS (kM J J (kO J (CW (q := 6) J J dE J dE (kM J J (kO J (Y3 J J dE (kO J (bM J J dE (kM J J (kM J J (kO J (sH J (kO J (bM J J oM (kM J J (Q0 (rS (kM J J (kM J J (kO J (bM J J oM (kM J J (kO J (bX J J dE (kO J (bM J J oM (kM J J (kM J J (kO J (bM J J dE ?_))))))))))))))))))))))))))))))));refine kO J (bX J J dE (kO J (bM J J oM (kM J J (kM J J (Q0 (rQ (rS (kM J J (kM J J (kO J (fP J J (fun h13 => ?_) (fun h13 => ?_)))))))))))))
    ·refine Q0 (Y0 J (rI (kM J J (kM J J (kM J J (kM J J (Q0 (W0 (rS (kM J J (kM J J (kM J J (kG J J (bN J J cY rfl ?_))))))))))))))
     unfold fQ;refine rI (kM J J (kO J (W4 J (kO J (Q2 J (kO J (Y1 J .h2 J (kM J J (kO J (Z3 (j := i) J J oM oM (kO J (Q5 (x := (W l k).getD (i) 0) J .h3 (by simp [eE]; omega) (by first | rfl | (rw [getD_set_ne oM, getD_set_ne oM]; done) | (rw [getD_set_ne oM]; done)) (kM J J (kO J (Y3 J J oM (kO J (Z3 (j := i) J J oM oM (kZ J (W7 J J .h3 (by first | omega | (simp; done) | (simp [eE]; omega) | (simp; omega)) (Q0 (aZ .nil (Q0 (rS (kM J J (kM J J (kO J (Y3 J J oM (kM J J (kM J J (kO J (Y3 J J dE (kO J (bM J J oM (kM J J ?_))))))))))))))))))))))))))))))))));refine kO J (Y3 J J dE (kO J (bM J J oM (kG J J (bN J J cY rfl ?_)))));unfold fQ;refine rI (kM J J (kO J (W4 J (kO J (Q2 J (kO J (Y1 J .h2 J (kM J J (kO J (Z3 (j := i + 1) J J oM oM (kO J (Q5 (x := (W l k).getD (i + 1) 0) J .h3 (by simp [eE]; omega) (by first | rfl | (rw [getD_set_ne oM, getD_set_ne oM]; done) | (rw [getD_set_ne oM]; done)) (kM J J (kO J (Y3 J J oM (kO J (Z3 (j := i + 1) J J oM oM (kZ J (W7 J J .h3 (by first | omega | (simp; done) | (simp [eE]; omega) | (simp; omega)) (Q0 (aZ .nil (Q0 (rI (kM J J (kM J J (kO J (Y3 J J oM (kM J J (kG J J (bN J J cY rfl ?_))))))))))))))))))))))))))))));unfold fQ;refine rI (kM J J (kO J (W4 J (kO J (Q2 J (kO J (Y1 J .h2 J (kM J J (kO J (Z3 (j := i + 2) J J oM oM (kO J (Q5 (x := (W l k).getD (i + 2) 0) J .h3 (by simp [eE]; omega) (by first | rfl | (rw [getD_set_ne oM, getD_set_ne oM]; done) | (rw [getD_set_ne oM]; done)) (kM J J (kO J (Y3 J J oM (kO J (Z3 (j := i + 2) J J oM oM (kZ J (W7 J J .h3 (by first | omega | (simp; done) | (simp [eE]; omega) | (simp; omega)) (Q0 (aZ .nil (Q0 (aZ .nil (Q0 (Z1 (W0 (rI (kO J (Y3 J J oM (kM J J (Q0 (W0 ?_))))))))))))))))))))))))))))))));exact ⟨rfl, _, _, _, (show (jJ l 0).length - (k + 1) < (jJ l 0).length - k from oM), lL, (.cons _ (.q (.q (.q .slnil)))), ⟨k + 1, rfl, (by first
      | (rw [xQ hgk hm1]; first | done | rfl)
      | (rw [lV hgk hm2 hk]; unfold gD; dsimp only; rw [if_pos aM]; first | done | rfl)
      | (rw [lV hgk hm2 hk]; unfold gD; dsimp only; rw [if_neg aM]; first | done | rfl)), rfl, oM⟩⟩
    ·refine Q0 (U0 J (Q1 (W0 (rS (kM J J (kM J J (kM J J (kG J J (bN J J cY rfl ?_)))))))))
     unfold fQ;refine rI (kM J J (kO J (W4 J (kO J (Q2 J (kO J (Y1 J .h2 J (kM J J (kO J (Z3 (j := i) J J oM oM (kO J (Q5 (x := (W l k).getD (i) 0) J .h3 (by simp [eE]; omega) (by first | rfl | (rw [getD_set_ne oM, getD_set_ne oM]; done) | (rw [getD_set_ne oM]; done)) (kM J J (kO J (Y3 J J oM (kO J (Z3 (j := i) J J oM oM (kZ J (W7 J J .h3 (by first | omega | (simp; done) | (simp [eE]; omega) | (simp; omega)) (Q0 (aZ .nil (Q0 (rS (kM J J (kM J J (kO J (Y3 J J oM (kM J J (kM J J (kO J (Y3 J J dE (kO J (bM J J oM (kM J J ?_))))))))))))))))))))))))))))))))));refine kO J (Y3 J J dE (kO J (bM J J oM (kG J J (bN J J cY rfl ?_)))));unfold fQ;refine rI (kM J J (kO J (W4 J (kO J (Q2 J (kO J (Y1 J .h2 J (kM J J (kO J (Z3 (j := i + 1) J J oM oM (kO J (Q5 (x := (W l k).getD (i + 1) 0) J .h3 (by simp [eE]; omega) (by first | rfl | (rw [getD_set_ne oM, getD_set_ne oM]; done) | (rw [getD_set_ne oM]; done)) (kM J J (kO J (Y3 J J oM (kO J (Z3 (j := i + 1) J J oM oM (kZ J (W7 J J .h3 (by first | omega | (simp; done) | (simp [eE]; omega) | (simp; omega)) (Q0 (aZ .nil (Q0 (rI (kM J J (kM J J (kO J (Y3 J J oM (kM J J (kG J J (bN J J cY rfl ?_))))))))))))))))))))))))))))));unfold fQ;refine rI (kM J J (kO J (W4 J (kO J (Q2 J (kO J (Y1 J .h2 J (kM J J (kO J (Z3 (j := i + 2) J J oM oM (kO J (Q5 (x := (W l k).getD (i + 2) 0) J .h3 (by simp [eE]; omega) (by first | rfl | (rw [getD_set_ne oM, getD_set_ne oM]; done) | (rw [getD_set_ne oM]; done)) (kM J J (kO J (Y3 J J oM (kO J (Z3 (j := i + 2) J J oM oM (kZ J (W7 J J .h3 (by first | omega | (simp; done) | (simp [eE]; omega) | (simp; omega)) (Q0 (aZ .nil (Q0 (aZ .nil (Q0 (Z1 (W0 (rI (kO J (Y3 J J oM (kM J J (Q0 (W0 ?_))))))))))))))))))))))))))))))));exact ⟨rfl, _, _, _, (show (jJ l 0).length - (k + 1) < (jJ l 0).length - k from oM), lL, (.cons _ (.q (.q (.q .slnil)))), ⟨k + 1, rfl, (by first
      | (rw [xQ hgk hm1]; first | done | rfl)
      | (rw [lV hgk hm2 hk]; unfold gD; dsimp only; rw [if_pos aM]; first | done | rfl)
      | (rw [lV hgk hm2 hk]; unfold gD; dsimp only; rw [if_neg aM]; first | done | rfl)), rfl, oM⟩⟩
   ·rw [hk]
    refine kM J J (Q0 (rS (kM J J (kO J (CW (q := 3) J J dE J dE (kM J J (kO J (Y3 J J dE (kO J (bM J J dE (kM J J (kM J J (kO J (sH J (kO J (bM J J oM (kM J J (Q0 (rS (kM J J (kM J J (kO J (bM J J oM (kM J J (kO J (bX J J dE (kO J (bM J J oM (kM J J (kM J J (kO J (bM J J dE ?_))))))))))))))))))))))))))))))));refine kO J (bX J J dE (kO J (bM J J oM (kM J J (kM J J (Q0 (rQ (rS (kM J J (kM J J (kO J (fP J J (fun h14 => ?_) (fun h14 => ?_)))))))))))))
    ·refine Q0 (Y0 J (rI (kM J J (kM J J (kM J J (kM J J (Q0 (W0 (rS (kM J J (kM J J (kM J J (kG J J (bN J J cY rfl ?_))))))))))))))
     unfold fQ;refine rI (kM J J (kO J (W4 J (kO J (Q2 J (kO J (Y1 J .h2 J (kM J J (kO J (Z3 (j := i) J J oM oM (kO J (Q5 (x := (W l k).getD (i) 0) J .h3 (by simp [eE]; omega) (by first | rfl | (rw [getD_set_ne oM, getD_set_ne oM]; done) | (rw [getD_set_ne oM]; done)) (kM J J (kO J (Y3 J J oM (kO J (Z3 (j := i) J J oM oM (kZ J (W7 J J .h3 (by first | omega | (simp; done) | (simp [eE]; omega) | (simp; omega)) (Q0 (aZ .nil (Q0 (rS (kM J J (kM J J (kO J (Y3 J J oM (kM J J (kM J J (kO J (Y3 J J dE (kO J (bM J J oM (kM J J ?_))))))))))))))))))))))))))))))))));refine kO J (Y3 J J dE (kO J (bM J J oM (kG J J (bN J J cY rfl ?_)))));unfold fQ;refine rI (kM J J (kO J (W4 J (kO J (Q2 J (kO J (Y1 J .h2 J (kM J J (kO J (Z3 (j := i + 1) J J oM oM (kO J (Q5 (x := (W l k).getD (i + 1) 0) J .h3 (by simp [eE]; omega) (by first | rfl | (rw [getD_set_ne oM, getD_set_ne oM]; done) | (rw [getD_set_ne oM]; done)) (kM J J (kO J (Y3 J J oM (kO J (Z3 (j := i + 1) J J oM oM (kZ J (W7 J J .h3 (by first | omega | (simp; done) | (simp [eE]; omega) | (simp; omega)) (Q0 (aZ .nil (Q0 (rI (kM J J (kM J J (kO J (Y3 J J oM (kM J J (kG J J (bN J J cY rfl ?_))))))))))))))))))))))))))))));unfold fQ;refine rI (kM J J (kO J (W4 J (kO J (Q2 J (kO J (Y1 J .h2 J (kM J J (kO J (Z3 (j := i + 2) J J oM oM (kO J (Q5 (x := (W l k).getD (i + 2) 0) J .h3 (by simp [eE]; omega) (by first | rfl | (rw [getD_set_ne oM, getD_set_ne oM]; done) | (rw [getD_set_ne oM]; done)) (kM J J (kO J (Y3 J J oM (kO J (Z3 (j := i + 2) J J oM oM (kZ J (W7 J J .h3 (by first | omega | (simp; done) | (simp [eE]; omega) | (simp; omega)) (Q0 (aZ .nil (Q0 (aZ .nil (Q0 (Z1 (W0 (rI (kO J (Y3 J J oM (kM J J (Q0 (W0 ?_))))))))))))))))))))))))))))))));exact ⟨rfl, _, _, _, (show (jJ l 0).length - (k + 1) < (jJ l 0).length - k from oM), lL, (.cons _ (.q (.q (.q .slnil)))), ⟨k + 1, rfl, (by first
      | (rw [xQ hgk hm1]; first | done | rfl)
      | (rw [lV hgk hm2 hk]; unfold gD; dsimp only; rw [if_pos aM]; first | done | rfl)
      | (rw [lV hgk hm2 hk]; unfold gD; dsimp only; rw [if_neg aM]; first | done | rfl)), rfl, oM⟩⟩
    ·refine Q0 (U0 J (Q1 (W0 (rS (kM J J (kM J J (kM J J (kG J J (bN J J cY rfl ?_)))))))))
     unfold fQ;refine rI (kM J J (kO J (W4 J (kO J (Q2 J (kO J (Y1 J .h2 J (kM J J (kO J (Z3 (j := i) J J oM oM (kO J (Q5 (x := (W l k).getD (i) 0) J .h3 (by simp [eE]; omega) (by first | rfl | (rw [getD_set_ne oM, getD_set_ne oM]; done) | (rw [getD_set_ne oM]; done)) (kM J J (kO J (Y3 J J oM (kO J (Z3 (j := i) J J oM oM (kZ J (W7 J J .h3 (by first | omega | (simp; done) | (simp [eE]; omega) | (simp; omega)) (Q0 (aZ .nil (Q0 (rS (kM J J (kM J J (kO J (Y3 J J oM (kM J J (kM J J (kO J (Y3 J J dE (kO J (bM J J oM (kM J J ?_))))))))))))))))))))))))))))))))));refine kO J (Y3 J J dE (kO J (bM J J oM (kG J J (bN J J cY rfl ?_)))));unfold fQ;refine rI (kM J J (kO J (W4 J (kO J (Q2 J (kO J (Y1 J .h2 J (kM J J (kO J (Z3 (j := i + 1) J J oM oM (kO J (Q5 (x := (W l k).getD (i + 1) 0) J .h3 (by simp [eE]; omega) (by first | rfl | (rw [getD_set_ne oM, getD_set_ne oM]; done) | (rw [getD_set_ne oM]; done)) (kM J J (kO J (Y3 J J oM (kO J (Z3 (j := i + 1) J J oM oM (kZ J (W7 J J .h3 (by first | omega | (simp; done) | (simp [eE]; omega) | (simp; omega)) (Q0 (aZ .nil (Q0 (rI (kM J J (kM J J (kO J (Y3 J J oM (kM J J (kG J J (bN J J cY rfl ?_))))))))))))))))))))))))))))));unfold fQ;refine rI (kM J J (kO J (W4 J (kO J (Q2 J (kO J (Y1 J .h2 J (kM J J (kO J (Z3 (j := i + 2) J J oM oM (kO J (Q5 (x := (W l k).getD (i + 2) 0) J .h3 (by simp [eE]; omega) (by first | rfl | (rw [getD_set_ne oM, getD_set_ne oM]; done) | (rw [getD_set_ne oM]; done)) (kM J J (kO J (Y3 J J oM (kO J (Z3 (j := i + 2) J J oM oM (kZ J (W7 J J .h3 (by first | omega | (simp; done) | (simp [eE]; omega) | (simp; omega)) (Q0 (aZ .nil (Q0 (aZ .nil (Q0 (Z1 (W0 (rI (kO J (Y3 J J oM (kM J J (Q0 (W0 ?_))))))))))))))))))))))))))))))));exact ⟨rfl, _, _, _, (show (jJ l 0).length - (k + 1) < (jJ l 0).length - k from oM), lL, (.cons _ (.q (.q (.q .slnil)))), ⟨k + 1, rfl, (by first
      | (rw [xQ hgk hm1]; first | done | rfl)
      | (rw [lV hgk hm2 hk]; unfold gD; dsimp only; rw [if_pos aM]; first | done | rfl)
      | (rw [lV hgk hm2 hk]; unfold gD; dsimp only; rw [if_neg aM]; first | done | rfl)), rfl, oM⟩⟩
   ·rw [hk]
    refine kM J J (Q0 (rS (kM J J (kO J (CW (q := 2) J J dE J dE (kM J J (kO J (Y3 J J dE (kO J (bM J J dE (kM J J (kM J J (kO J (sH J (kO J (bM J J oM (kM J J (Q0 (rS (kM J J (kM J J (kO J (bM J J oM (kM J J (kO J (bX J J dE (kO J (bM J J oM (kM J J (kM J J (kO J (bM J J dE ?_))))))))))))))))))))))))))))))));refine kO J (bX J J dE (kO J (bM J J oM (kM J J (kM J J (Q0 (rQ (rS (kM J J (kM J J (kO J (fP J J (fun h15 => ?_) (fun h15 => ?_)))))))))))))
    ·refine Q0 (Y0 J (rI (kM J J (kM J J (kM J J (kM J J (Q0 (W0 (rS (kM J J (kM J J (kM J J (kG J J (bN J J cY rfl ?_))))))))))))))
     unfold fQ;refine rI (kM J J (kO J (W4 J (kO J (Q2 J (kO J (Y1 J .h2 J (kM J J (kO J (Z3 (j := i) J J oM oM (kO J (Q5 (x := (W l k).getD (i) 0) J .h3 (by simp [eE]; omega) (by first | rfl | (rw [getD_set_ne oM, getD_set_ne oM]; done) | (rw [getD_set_ne oM]; done)) (kM J J (kO J (Y3 J J oM (kO J (Z3 (j := i) J J oM oM (kZ J (W7 J J .h3 (by first | omega | (simp; done) | (simp [eE]; omega) | (simp; omega)) (Q0 (aZ .nil (Q0 (rS (kM J J (kM J J (kO J (Y3 J J oM (kM J J (kM J J (kO J (Y3 J J dE (kO J (bM J J oM (kM J J ?_))))))))))))))))))))))))))))))))));refine kO J (Y3 J J dE (kO J (bM J J oM (kG J J (bN J J cY rfl ?_)))));unfold fQ;refine rI (kM J J (kO J (W4 J (kO J (Q2 J (kO J (Y1 J .h2 J (kM J J (kO J (Z3 (j := i + 1) J J oM oM (kO J (Q5 (x := (W l k).getD (i + 1) 0) J .h3 (by simp [eE]; omega) (by first | rfl | (rw [getD_set_ne oM, getD_set_ne oM]; done) | (rw [getD_set_ne oM]; done)) (kM J J (kO J (Y3 J J oM (kO J (Z3 (j := i + 1) J J oM oM (kZ J (W7 J J .h3 (by first | omega | (simp; done) | (simp [eE]; omega) | (simp; omega)) (Q0 (aZ .nil (Q0 (rI (kM J J (kM J J (kO J (Y3 J J oM (kM J J (kG J J (bN J J cY rfl ?_))))))))))))))))))))))))))))));unfold fQ;refine rI (kM J J (kO J (W4 J (kO J (Q2 J (kO J (Y1 J .h2 J (kM J J (kO J (Z3 (j := i + 2) J J oM oM (kO J (Q5 (x := (W l k).getD (i + 2) 0) J .h3 (by simp [eE]; omega) (by first | rfl | (rw [getD_set_ne oM, getD_set_ne oM]; done) | (rw [getD_set_ne oM]; done)) (kM J J (kO J (Y3 J J oM (kO J (Z3 (j := i + 2) J J oM oM (kZ J (W7 J J .h3 (by first | omega | (simp; done) | (simp [eE]; omega) | (simp; omega)) (Q0 (aZ .nil (Q0 (aZ .nil (Q0 (Z1 (W0 (rI (kO J (Y3 J J oM (kM J J (Q0 (W0 ?_))))))))))))))))))))))))))))))));exact ⟨rfl, _, _, _, (show (jJ l 0).length - (k + 1) < (jJ l 0).length - k from oM), lL, (.cons _ (.q (.q (.q .slnil)))), ⟨k + 1, rfl, (by first
      | (rw [xQ hgk hm1]; first | done | rfl)
      | (rw [lV hgk hm2 hk]; unfold gD; dsimp only; rw [if_pos aM]; first | done | rfl)
      | (rw [lV hgk hm2 hk]; unfold gD; dsimp only; rw [if_neg aM]; first | done | rfl)), rfl, oM⟩⟩
    ·refine Q0 (U0 J (Q1 (W0 (rS (kM J J (kM J J (kM J J (kG J J (bN J J cY rfl ?_)))))))))
     unfold fQ;refine rI (kM J J (kO J (W4 J (kO J (Q2 J (kO J (Y1 J .h2 J (kM J J (kO J (Z3 (j := i) J J oM oM (kO J (Q5 (x := (W l k).getD (i) 0) J .h3 (by simp [eE]; omega) (by first | rfl | (rw [getD_set_ne oM, getD_set_ne oM]; done) | (rw [getD_set_ne oM]; done)) (kM J J (kO J (Y3 J J oM (kO J (Z3 (j := i) J J oM oM (kZ J (W7 J J .h3 (by first | omega | (simp; done) | (simp [eE]; omega) | (simp; omega)) (Q0 (aZ .nil (Q0 (rS (kM J J (kM J J (kO J (Y3 J J oM (kM J J (kM J J (kO J (Y3 J J dE (kO J (bM J J oM (kM J J ?_))))))))))))))))))))))))))))))))));refine kO J (Y3 J J dE (kO J (bM J J oM (kG J J (bN J J cY rfl ?_)))));unfold fQ;refine rI (kM J J (kO J (W4 J (kO J (Q2 J (kO J (Y1 J .h2 J (kM J J (kO J (Z3 (j := i + 1) J J oM oM (kO J (Q5 (x := (W l k).getD (i + 1) 0) J .h3 (by simp [eE]; omega) (by first | rfl | (rw [getD_set_ne oM, getD_set_ne oM]; done) | (rw [getD_set_ne oM]; done)) (kM J J (kO J (Y3 J J oM (kO J (Z3 (j := i + 1) J J oM oM (kZ J (W7 J J .h3 (by first | omega | (simp; done) | (simp [eE]; omega) | (simp; omega)) (Q0 (aZ .nil (Q0 (rI (kM J J (kM J J (kO J (Y3 J J oM (kM J J (kG J J (bN J J cY rfl ?_))))))))))))))))))))))))))))));unfold fQ;refine rI (kM J J (kO J (W4 J (kO J (Q2 J (kO J (Y1 J .h2 J (kM J J (kO J (Z3 (j := i + 2) J J oM oM (kO J (Q5 (x := (W l k).getD (i + 2) 0) J .h3 (by simp [eE]; omega) (by first | rfl | (rw [getD_set_ne oM, getD_set_ne oM]; done) | (rw [getD_set_ne oM]; done)) (kM J J (kO J (Y3 J J oM (kO J (Z3 (j := i + 2) J J oM oM (kZ J (W7 J J .h3 (by first | omega | (simp; done) | (simp [eE]; omega) | (simp; omega)) (Q0 (aZ .nil (Q0 (aZ .nil (Q0 (Z1 (W0 (rI (kO J (Y3 J J oM (kM J J (Q0 (W0 ?_))))))))))))))))))))))))))))))));exact ⟨rfl, _, _, _, (show (jJ l 0).length - (k + 1) < (jJ l 0).length - k from oM), lL, (.cons _ (.q (.q (.q .slnil)))), ⟨k + 1, rfl, (by first
      | (rw [xQ hgk hm1]; first | done | rfl)
      | (rw [lV hgk hm2 hk]; unfold gD; dsimp only; rw [if_pos aM]; first | done | rfl)
      | (rw [lV hgk hm2 hk]; unfold gD; dsimp only; rw [if_neg aM]; first | done | rfl)), rfl, oM⟩⟩
 ·refine Q0 (rQ (U0 J (Y4 (Z2 (Z2 (Q3 (aZ .nil (Q0 (rS (kO J (Q2 J (kO J (Y1 J .h1 J (kM J J (Q0 (V2 ?_))))))))))))))))
  exact fI J (.cons _ (.cons _ (.q .slnil))) ⟨b1, rfl, by rw [H3 oM]⟩
end
theorem N7 {x y : Int} (hx : -200000000 <= x /\ x <= 200000000) (hy : -200000000 <= y /\ y <= 200000000) : -9223372036854775808 <= x * y /\ x * y < 9223372036854775808 := by
 have h1 : (x * y).natAbs <= 200000000 * 200000000 := by
  rw [Int.natAbs_mul];exact Nat.mul_le_mul oM oM
 omega
theorem fJ {l1 l2 : List Int} (h : bA l1 l2 = true) : FY 9 100000 l1 := by
 unfold bA at h;rw [Bool.and_eq_true] at h;exact AD dE h.1
theorem Ew {l1 l2 : List Int} (h : bA l1 l2 = true) : FY 7 15000 l2 := by
 unfold bA at h;rw [Bool.and_eq_true] at h;exact AD dE h.2
theorem iX {l1 l2 : List Int} (h : bA l1 l2 = true) : FY 9 100000 l2 := by
 have q := Ew h;exact ⟨q.h2, by have := q.hm; omega, fun k => by have := q.lo k; omega, q.rise⟩
section
variable {X : FuncId -> List Value -> St -> (Value -> St -> Bool) -> Bool}
theorem H7 (n : Nat) (a1 a2 : Option Addr) (c1 c2 : Nat) (l1 l2 : List Int) (s : St) (hs : Wf s) (hn : 1125899906842624 <= n) (hl1 : aI s a1 l1) (hl2 : aI s a2 l2) (hp1 : FY 9 100000 l1) (hp2 : FY 9 100000 l2) : bW Tryz.prog (cA cH) X (n + 1500) 102 [.slice a1 l1.length c1, .slice a2 l2.length c2] s (fun v A => A = []) := by
 refine enter Hp rfl hs ?_;unfold DH;have hlen1 := hl1.len;have hlen2 := hl2.len;have hm1 := hp1.hm;have hm2 := hp2.hm;have hw1 := Eu (l := l1);have hw2 := Eu (l := l2);refine rS (kM J J (Q0 (rS (kM J J (kO J (Z4 J J (fun s1 h1 => uU _ _ _ _ s1 h1.wf oM (hl2.ext hs h1.2.1) hp2) (fun v1 A1 q1 => ?_)))))));obtain ⟨b1, rfl, rfl⟩ := q1;refine kM J J (Q0 (rS (kM J J (kO J (aJ J hl1.spot (kO J (CX (m := 0) J J oM oM oM (fun b2 => (kM J J (Q0 (rQ (rS (kM J J (kO J (Z4 J J (fun s1 h1 => uU _ _ _ _ s1 h1.wf oM (hl1.ext hs h1.2.1) hp1) (fun v1 A1 q1 => ?_))))))))))))))));obtain ⟨b3, rfl, rfl⟩ := q1;refine kO J (dO J (kM J J (Q0 (W1 (U4 (fun j e A => ∃ (k : Nat) (R : List Value), e = [(5, .slice (some ⟨b1, 0, none⟩) l2.length l2.length), (6, .slice (some ⟨b2, 0, none⟩) k l1.length), (18, .slice (some ⟨b3, 0, none⟩) l1.length l1.length), (19, .int .i64 (l1.length : Int)), (20, .int .i64 (k : Int))] /\ A = (.row b3 3 false (ints (I5 l1)) :: (.row b2 22 false (R) :: (.row b1 3 false (ints (I5 l2)) :: []))) /\ j = l1.length - k /\ k <= l1.length /\ R.length = l1.length) 500 281474976710656 281474976710656 ?_ (j := _) (env2 := _) (A2 := _) ?_ ?_ ?_ ?_ ⟨0, List.replicate l1.length (.slice none 0 0), rfl, rfl, rfl, oM, sM⟩)))))
 rotate_left
 ·omega
 ·omega
 ·exact lL
 ·exact (.q (.q (.q .slnil)))
 rintro n hn j _ _ ⟨k, R, rfl, rfl, rfl, hkl, hR⟩;refine rS (kO J (W5 J J (fun h4 => ?_) (fun h4 => ?_)))
 ·refine Q0 (rQ (Y0 J (Q1 (W0 (rQ (W1 (rS (kO J (Z3 (j := k) J J oM oM (kO J (mP J .here (by first | omega | (simp; done) | (simp; omega)) (kM J J (Q0 (rS (kM J J (kO J (dO J (kO J (CY (m := 0) J J oM oM oM (fun b5 => (kM J J (Q0 (rQ (rS (kM J J (kO J (dO J (kM J J (Q0 ?_)))))))))))))))))))))))))))))
  refine W1 (U4 (fun j e A => ∃ (y : Nat) (S : List Value), e = [(5, .slice (some ⟨b1, 0, none⟩) l2.length l2.length), (6, .slice (some ⟨b2, 0, none⟩) k l1.length), (18, .slice (some ⟨b3, 0, none⟩) l1.length l1.length), (19, .int .i64 (l1.length : Int)), (20, .int .i64 (k : Int)), (8, .int .i64 ((I5 l1).getD k 0)), (9, .slice (some ⟨b5, 0, none⟩) y l2.length), (27, .slice (some ⟨b1, 0, none⟩) l2.length l2.length), (28, .int .i64 (l2.length : Int)), (29, .int .i64 (y : Int))] /\ A = (.row b5 3 false (S) :: (.row b3 3 false (ints (I5 l1)) :: (.row b2 22 false (R) :: (.row b1 3 false (ints (I5 l2)) :: [])))) /\ j = l2.length - y /\ y <= l2.length /\ S.length = l2.length) 300 0 281474976710656 ?_ (j := _) (env2 := _) (A2 := _) ?_ ?_ ?_ ?_ ⟨0, ints (List.replicate l2.length 0), rfl, rfl, rfl, oM, (by simp [ints])⟩)
  rotate_left
  ·omega
  ·omega
  ·exact lL
  ·exact (.q (.q (.q (.q .slnil))))
  rintro n hn j _ _ ⟨y, S, rfl, rfl, rfl, hjl, hS⟩;refine rS (kO J (W5 J J (fun h6 => ?_) (fun h6 => ?_)))
  ·refine Q0 (rQ (Y0 J (Q1 (W0 (rQ (W1 (rS (kO J (Z3 (j := y) J J oM oM (kO J (mP J .h3 (by first | omega | (simp; done) | (simp; omega)) (kM J J (Q0 (rI (kM J J (kM J J (kM J J (kO J (bM J J (N7 (H5 hp1 k) (H5 hp2 y)) (kO J (bO J J J (fun b7 => (kO J (HX J J (iG.own .here rfl sM) .h1 oM oM (by show _ < 18446744073709551616; omega) oM oM (kM J J (Q0 (Z1 (W0 (rI ?_)))))))))))))))))))))))))))))
   refine kO J (Y3 J J oM (kM J J (Q0 (W0 ?_))));exact ⟨rfl, _, _, _, (show l2.length - (y + 1) < l2.length - y from oM), lL, (.cons _ (.q (.q (.q (.q .slnil))))), ⟨y + 1, _, rfl, rfl, rfl, oM, (by simp [over]; omega)⟩⟩
  ·refine Q0 (rQ (U0 J (Y4 (Z2 (Z2 (Q3 (W0 (rI (kM J J (kM J J (kO J (bO J J J (fun b9 => (kO J (HX J J (iG.own .here rfl sM) .h3 oM oM (by show _ < 18446744073709551616; omega) oM oM (kM J J (Q0 (Z1 (W0 (rI (kO J (Y3 J J oM (kM J J (Q0 (W0 ?_)))))))))))))))))))))))))
   exact ⟨rfl, _, _, _, (show l1.length - (k + 1) < l1.length - k from oM), lL, (.cons _ (.cons _ (.q (.q (.q .slnil))))), ⟨k + 1, _, rfl, rfl, rfl, oM, (by simp [over]; omega)⟩⟩
 ·refine Q0 (rQ (U0 J (Y4 (Z2 (Z2 (Q3 (W0 (rS (kM J J (kM J J (Q0 (V2 ?_))))))))))))
  exact fI J (List.nil_sublist _) rfl
theorem N8 (n : Nat) (a1 a2 : Option Addr) (c1 c2 : Nat) (l1 l2 : List Int) (s : St) (hs : Wf s) (hn : 1407374883553280 <= n) (hl1 : aI s a1 l1) (hl2 : aI s a2 l2) : bW Tryz.prog (cA cH) X (n + 1600) 50 [.slice a1 l1.length c1, .slice a2 l2.length c2] s (fun v A => ∃ x, v = .tuple #[x, .int .i64 (if bA l1 l2 = true then 0 else 12)] /\ A = []) := by
 refine enter LI rfl hs ?_;unfold Ky;have hlen1 := hl1.len;have hlen2 := hl2.len;refine rS (kM J J (kM J J (Q0 (rQ (rS (kM J J (kM J J (kO J (gL J J (fun s1 h1 => BQ _ _ _ _ _ _ _ s1 h1.wf oM (hl1.ext hs h1.2.1) (hl2.ext hs h1.2.1)) (fun h1 => ?_) (fun h1 => ?_))))))))))
 ·have hp1 := fJ h1
  have hp2 := iX h1;refine kM J J (Q0 (rS (kM J J (kO J (V3 J J (fun h => absurd h dE) (fun _ => (Q0 (U0 J (Q1 (W0 (rS (kM J J (kM J J (kO J (Z4 J J (fun s1 h1 => H7 _ _ _ _ _ _ _ s1 h1.wf oM (hl1.ext hs h1.2.1) (hl2.ext hs h1.2.1) hp1 hp2) (fun v1 A1 q1 => ?_))))))))))))))));subst q1;refine kM J J (kM J J (Q0 (V2 ?_)))
  first
   | exact fC J J (List.nil_sublist _) ⟨_, by rw [if_pos aM], rfl⟩
   | exact fC J J (List.nil_sublist _) ⟨_, by rw [if_neg aM], rfl⟩
 ·refine kM J J (Q0 (rS (kM J J (kO J (V3 J J (fun _ => (Q0 (Y0 J (rS (kM J J (kM J J (kM J J (Q0 (V2 (W3 ?_)))))))))) (fun h => absurd h dE))))))
  first
   | exact fC J J (List.nil_sublist _) ⟨_, by rw [if_pos aM], rfl⟩
   | exact fC J J (List.nil_sublist _) ⟨_, by rw [if_neg aM], rfl⟩
end
theorem BS {m hi : Int} {l : List Int} (h : FY m hi l) : ∀ (d k : Nat), k + d + 1 = l.length -> l.getD k 0 <= l.getD (l.length - 1) 0
 | 0, k, hk => by rw [show l.length - 1 = k by omega]; exact Int.le_refl _
 | d + 1, k, hk => by
  have h1 := h.rise k oM;have h2 := BS h d (k + 1) oM;omega
theorem dF {l1 l2 : List Int} (h1 : eX 9 100000 l1 = true) (h2 : eX 9 100000 l2 = true) (h3 : (l2.length : Int) <= 7) (h4 : l2.getD (l2.length - 1) 0 <= 15000) : bA l1 l2 = true := by
 have hp := AD dE h2;refine lG h1 h2 h3 ?_;unfold sI;rw [List.all_eq_true];intro x hx;obtain ⟨k, hk, rfl⟩ := List.getElem_of_mem hx;have q := hp.lo k;have q2 := BS hp (l2.length - 1 - k) k oM;have q3 : l2.getD k 0 <= 15000 := Int.le_trans q2 h4;have e : l2.getD k 0 = l2[k] := by rw [List.getD_eq_getElem?_getD, List.getElem?_eq_getElem hk]; rfl
 rw [e] at q q3;simpa using ⟨q.1, q3⟩
theorem cB {l1 l2 : List Int} (h4 : ¬ l2.getD (l2.length - 1) 0 <= 15000) : bA l1 l2 = false := by
 cases hb : bA l1 l2 with
 | false => rfl
 | true => exact absurd ((Ew hb).lo _).2 h4
theorem dG {l1 l2 : List Int} (h : ¬ eX 9 100000 l1 = true) : bA l1 l2 = false := mQ (by simpa using h)
theorem dH {l1 l2 : List Int} (h : ¬ eX 9 100000 l2 = true) : bA l1 l2 = false := mR (by simpa using h)
section
variable {X : FuncId -> List Value -> St -> (Value -> St -> Bool) -> Bool}
theorem iY (n : Nat) (d r al up : Int) (a1 a2 : Option Addr) (c1 c2 : Nat) (l1 l2 : List Int) (s : St) (hs : Wf s) (hn : 1688849860263936 <= n) (hl1 : aI s a1 l1) (hl2 : aI s a2 l2) : bW Tryz.prog (cA cH) X (n + 1700) 19 [.agg ⟨[.int .i64 d, .int .i64 r, .slice a1 l1.length c1, .slice a2 l2.length c2, .int .i64 al, .int .i64 up]⟩] s (fun v A => v = .int .i64 (if (1 <= d /\ d <= 99999) /\ (1 <= r /\ r <= 99999) /\ (0 <= al /\ al <= 100000) /\ (0 <= up /\ up <= 100000) /\ bA l1 l2 = true then 0 else 30) /\ A = []) := by
 refine enter Ls rfl hs ?_;unfold J1;have hlen1 := hl1.len;have hlen2 := hl2.len;refine rS (kO J (bI J J J (fun b1 => (kM J J (Q0 (rS (kO J (Q2 J (kO J (Y1 J .here rfl (kO J (Q2 J (kO J (Y1 J .here rfl (kO J (Z4 J J (fun s1 h1 => N8 _ _ _ _ _ _ _ s1 h1.wf oM (hl1.ext hs h1.2.1) (hl2.ext hs h1.2.1)) (fun v1 A1 q1 => ?_)))))))))))))))));obtain ⟨x1, rfl, rfl⟩ := q1;by_cases hpl : bA l1 l2 = true
 ·rw [if_pos hpl]
  refine kM J J (kO J (V1 J J (kO J (V1 J J (kM J J (kM J J (Q0 (rS (kM J J (kO J (bS J J (fun _ => (kM J J (kG J J (Q2 J (kG J J (Y1 J .here rfl (kG J J (bH J J (fun s1 h1 => nT _ _ s1 h1.wf) (fun h3 => ?_) (fun h3 => ?_))))))))) (fun h => absurd h dE))))))))))))
  ·refine kO J (W2 J J J (kM J J (kG J J (Q2 J (kG J J (Y1 J .here rfl (kG J J (bH J J (fun s1 h1 => nT _ _ s1 h1.wf) (fun h4 => ?_) (fun h4 => ?_)))))))))
   ·refine kO J (W2 J J J (kM J J (kG J J (Q2 J (kG J J (Q2 J (kG J J (Y1 J .here rfl (kG J J (bH J J (fun s1 h1 => fR _ _ _ _ s1 h1.wf) (fun h5 => ?_) (fun h5 => ?_)))))))))))
    ·refine kO J (W2 J J J (kM J J (kG J J (Q2 J (kG J J (Q2 J (kG J J (Y1 J .here rfl (kG J J (bH J J (fun s1 h1 => fR _ _ _ _ s1 h1.wf) (fun h6 => ?_) (fun h6 => ?_)))))))))))
     ·refine kO J (W2 J J J (kM J J (Q0 (rQ (rS (kM J J (kO J (U6 J (Q0 (U0 J (Q1 (W0 (rS (kM J J (Q0 (V2 (aV J ⟨congrArg (Value.int .i64) ?_, rfl⟩)))))))))))))))))
      first
       | exact (if_pos ⟨oM, oM, oM, oM, by first | assumption | exact dF aM aM oM oM⟩).symm
       | exact (if_neg (fun h => by
        obtain ⟨q1, q2, q3, q4, q5⟩ := h
        first
         | omega
         | contradiction
         | (rw [dG aM] at q5; cases q5)
         | (rw [dH aM] at q5; cases q5)
         | (rw [cZ oM] at q5; cases q5)
         | (rw [cB oM] at q5; cases q5))).symm
     ·refine kO J (W2 J J J (kM J J (Q0 (rQ (rS (kM J J (kO J (U6 J (Q0 (Y0 J (rS (kM J J (Q0 (V2 (W3 (aV J ⟨congrArg (Value.int .i64) ?_, rfl⟩))))))))))))))))
      first
       | exact (if_pos ⟨oM, oM, oM, oM, by first | assumption | exact dF aM aM oM oM⟩).symm
       | exact (if_neg (fun h => by
        obtain ⟨q1, q2, q3, q4, q5⟩ := h
        first
         | omega
         | contradiction
         | (rw [dG aM] at q5; cases q5)
         | (rw [dH aM] at q5; cases q5)
         | (rw [cZ oM] at q5; cases q5)
         | (rw [cB oM] at q5; cases q5))).symm
    ·refine kO J (W2 J J J (kM J J (V0 J J (V0 J J (V0 J J (V0 J J (kO J (U1 J J J (kM J J (Q0 (rQ (rS (kM J J (kO J (U6 J (Q0 (Y0 J (rS (kM J J (Q0 (V2 (W3 (aV J ⟨congrArg (Value.int .i64) ?_, rfl⟩)))))))))))))))))))))))
     first
      | exact (if_pos ⟨oM, oM, oM, oM, by first | assumption | exact dF aM aM oM oM⟩).symm
      | exact (if_neg (fun h => by
       obtain ⟨q1, q2, q3, q4, q5⟩ := h
       first
        | omega
        | contradiction
        | (rw [dG aM] at q5; cases q5)
        | (rw [dH aM] at q5; cases q5)
        | (rw [cZ oM] at q5; cases q5)
        | (rw [cB oM] at q5; cases q5))).symm
   ·refine kO J (W2 J J J (kM J J (V0 J J (V0 J J (V0 J J (V0 J J (kO J (U1 J J J (kM J J (V0 J J (V0 J J (V0 J J (V0 J J (kO J (U1 J J J (kM J J (Q0 (rQ (rS (kM J J (kO J (U6 J (Q0 (Y0 J (rS (kM J J (Q0 ?_)))))))))))))))))))))))))))
    refine V2 (W3 (aV J ⟨congrArg (Value.int .i64) ?_, rfl⟩))
    first
     | exact (if_pos ⟨oM, oM, oM, oM, by first | assumption | exact dF aM aM oM oM⟩).symm
     | exact (if_neg (fun h => by
      obtain ⟨q1, q2, q3, q4, q5⟩ := h
      first
       | omega
       | contradiction
       | (rw [dG aM] at q5; cases q5)
       | (rw [dH aM] at q5; cases q5)
       | (rw [cZ oM] at q5; cases q5)
       | (rw [cB oM] at q5; cases q5))).symm
  ·refine kO J (W2 J J J (kM J J (V0 J J (V0 J J (V0 J J (kO J (U1 J J J (kM J J (V0 J J (V0 J J (V0 J J (V0 J J (kO J (U1 J J J (kM J J (V0 J J (V0 J J (V0 J J (V0 J J (kO J (U1 J J J (kM J J (Q0 (rQ (rS (kM J J (kO J (U6 J ?_))))))))))))))))))))))))))))
   refine Q0 (Y0 J (rS (kM J J (Q0 (V2 (W3 (aV J ⟨congrArg (Value.int .i64) ?_, rfl⟩)))))))
   first
    | exact (if_pos ⟨oM, oM, oM, oM, by first | assumption | exact dF aM aM oM oM⟩).symm
    | exact (if_neg (fun h => by
     obtain ⟨q1, q2, q3, q4, q5⟩ := h
     first
      | omega
      | contradiction
      | (rw [dG aM] at q5; cases q5)
      | (rw [dH aM] at q5; cases q5)
      | (rw [cZ oM] at q5; cases q5)
      | (rw [cB oM] at q5; cases q5))).symm
 ·rw [if_neg hpl]
  refine kM J J (kO J (V1 J J (kO J (V1 J J (kM J J (kM J J (Q0 (rS (kM J J (kO J (bS J J (fun h => absurd h dE) (fun _ => (kM J J (V0 J J (V0 J J (V0 J J (kO J (U1 J J J (kM J J (V0 J J (V0 J J (V0 J J (kO J (U1 J J J (kM J J (V0 J J (V0 J J (V0 J J (V0 J J ?_)))))))))))))))))))))))))))));refine kO J (U1 J J J (kM J J (V0 J J (V0 J J (V0 J J (V0 J J (kO J (U1 J J J (kM J J (Q0 (rQ (rS (kM J J (kO J (U6 J (Q0 (Y0 J (rS (kM J J (Q0 (V2 (W3 (aV J ⟨congrArg (Value.int .i64) ?_, rfl⟩)))))))))))))))))))))))
  first
   | exact (if_pos ⟨oM, oM, oM, oM, by first | assumption | exact dF aM aM oM oM⟩).symm
   | exact (if_neg (fun h => by
    obtain ⟨q1, q2, q3, q4, q5⟩ := h
    first
     | omega
     | contradiction
     | (rw [dG aM] at q5; cases q5)
     | (rw [dH aM] at q5; cases q5)
     | (rw [cZ oM] at q5; cases q5)
     | (rw [cB oM] at q5; cases q5))).symm
theorem gJ (n : Nat) (d r al up : Int) (a1 a2 : Option Addr) (c1 c2 : Nat) (l1 l2 : List Int) (s : St) (hs : Wf s) (hn : 1688849860263936 <= n) (hl1 : aI s a1 l1) (hl2 : aI s a2 l2) : bW Tryz.prog (cA cH) X (n + 1700) 20 [.agg ⟨[.int .i64 d, .int .i64 r, .slice a1 l1.length c1, .slice a2 l2.length c2, .int .i64 al, .int .i64 up]⟩] s (fun v A => v = .int .i64 (if (1 <= d /\ d <= 99999) /\ (1 <= r /\ r <= 99999) /\ (0 <= al /\ al <= 100000) /\ (0 <= up /\ up <= 100000) /\ bA l1 l2 = true then 0 else 30) /\ A = []) := by
 refine enter Lt rfl hs ?_;unfold J3;have hlen1 := hl1.len;have hlen2 := hl2.len;refine rS (kO J (bI J J J (fun b1 => (kM J J (Q0 (rQ (rS (kO J (Q2 J (kO J (Y1 J .here rfl (kO J (bH J J (fun s1 h1 => qW _ _ _ _ s1 h1.wf) (fun h2 => ?_) (fun h2 => ?_))))))))))))))
 ·refine kO J (U6 J (kM J J (kG J J (Q2 J (kG J J (Y1 J .here rfl (kG J J (bH J J (fun s1 h1 => qW _ _ _ _ s1 h1.wf) (fun h3 => ?_) (fun h3 => ?_)))))))))
  ·refine kG J J (U6 J (kO J (U1 J J J (kM J J (kG J J (Q2 J (kG J J (Q2 J (kG J J (Y1 J .here rfl (kG J J (bH J J (fun s1 h1 => qW _ _ _ _ s1 h1.wf) (fun h4 => ?_) (fun h4 => ?_)))))))))))))
   ·refine kG J J (U6 J (kO J (U1 J J J (kM J J (kG J J (Q2 J (kG J J (Q2 J (kG J J (Y1 J .here rfl (kG J J (bH J J (fun s1 h1 => qW _ _ _ _ s1 h1.wf) (fun h5 => ?_) (fun h5 => ?_)))))))))))))
    ·refine kG J J (U6 J (kO J (U1 J J J (Q0 (U0 J (Q1 (W0 (rQ (rS (kO J (Q2 J (kO J (Y1 J .here rfl (kO J (gL J J (fun s1 h1 => pG _ _ _ _ s1 h1.wf oM (hl1.ext hs h1.2.1)) (fun h6 => ?_) (fun h6 => ?_))))))))))))))))
     ·refine kO J (V3 J J (fun h => absurd h dE) (fun _ => (kM J J (kG J J (Q2 J (kG J J (Y1 J .here rfl (kG J J (gL J J (fun s1 h1 => pG _ _ _ _ s1 h1.wf oM (hl2.ext hs h1.2.1)) (fun h8 => ?_) (fun h8 => ?_))))))))))
      ·refine kG J J (V3 J J (fun h => absurd h dE) (fun _ => (kO J (U1 J J J (kM J J (kG J J (Q2 J (kG J J (Y1 J .here rfl (kG J J (aJ J hl2.spot (kG J J (fP J J (fun h10 => ?_) (fun h10 => ?_))))))))))))))
       ·refine kO J (U1 J J J (kM J J (V0 J J (V0 J J (V0 J J (V0 J J (V0 J J (V0 J J (V0 J J (V0 J J (V0 J J (kO J (W2 J J J (Q0 (Y0 J (rS (kM J J (Q0 (V2 (W3 (aV J ⟨congrArg (Value.int .i64) ?_, rfl⟩)))))))))))))))))))))
        first
         | exact (if_pos ⟨oM, oM, oM, oM, by first | assumption | exact dF aM aM oM oM⟩).symm
         | exact (if_neg (fun h => by
          obtain ⟨q1, q2, q3, q4, q5⟩ := h
          first
           | omega
           | contradiction
           | (rw [dG aM] at q5; cases q5)
           | (rw [dH aM] at q5; cases q5)
           | (rw [cZ oM] at q5; cases q5)
           | (rw [cB oM] at q5; cases q5))).symm
       ·refine kO J (U1 J J J (kM J J (kG J J (Q2 J (kG J J (Y1 J .here rfl (kG J J (Q2 J (kG J J (Y1 J .here rfl (kG J J (aJ J hl2.spot ?_))))))))))))
        have hq2 := (AD dE (by assumption : eX 9 100000 l2 = true)).h2;refine kG J J (bX J J oM (kG J J (Q7 (j := l2.length - 1) hl2 rfl rfl oM sM oM (fun _ _ a99 => (kG J J (W6 J (hl2.at a99 oM) (kG J J (fP J J (fun h12 => ?_) (fun h12 => ?_)))))))))
        ·refine kO J (U1 J J J (Q0 (Y0 J (rS (kM J J (Q0 (V2 (W3 (aV J ⟨congrArg (Value.int .i64) ?_, rfl⟩)))))))))
         first
          | exact (if_pos ⟨oM, oM, oM, oM, by first | assumption | exact dF aM aM oM oM⟩).symm
          | exact (if_neg (fun h => by
           obtain ⟨q1, q2, q3, q4, q5⟩ := h
           first
            | omega
            | contradiction
            | (rw [dG aM] at q5; cases q5)
            | (rw [dH aM] at q5; cases q5)
            | (rw [cZ oM] at q5; cases q5)
            | (rw [cB oM] at q5; cases q5))).symm
        ·refine kO J (U1 J J J (Q0 (U0 J (Q1 (W0 (rS (kM J J (Q0 (V2 (aV J ⟨congrArg (Value.int .i64) ?_, rfl⟩))))))))))
         first
          | exact (if_pos ⟨oM, oM, oM, oM, by first | assumption | exact dF aM aM oM oM⟩).symm
          | exact (if_neg (fun h => by
           obtain ⟨q1, q2, q3, q4, q5⟩ := h
           first
            | omega
            | contradiction
            | (rw [dG aM] at q5; cases q5)
            | (rw [dH aM] at q5; cases q5)
            | (rw [cZ oM] at q5; cases q5)
            | (rw [cB oM] at q5; cases q5))).symm
      ·refine kG J J (V3 J J (fun _ => (kO J (U1 J J J (kM J J (V0 J J (V0 J J (V0 J J (V0 J J (kO J (W2 J J J (kM J J (V0 J J (V0 J J (V0 J J (V0 J J (V0 J J (V0 J J (V0 J J (V0 J J (V0 J J (kO J (W2 J J J (Q0 (Y0 J (rS (kM J J (Q0 ?_))))))))))))))))))))))))))) (fun h => absurd h dE))
       refine V2 (W3 (aV J ⟨congrArg (Value.int .i64) ?_, rfl⟩))
       first
        | exact (if_pos ⟨oM, oM, oM, oM, by first | assumption | exact dF aM aM oM oM⟩).symm
        | exact (if_neg (fun h => by
         obtain ⟨q1, q2, q3, q4, q5⟩ := h
         first
          | omega
          | contradiction
          | (rw [dG aM] at q5; cases q5)
          | (rw [dH aM] at q5; cases q5)
          | (rw [cZ oM] at q5; cases q5)
          | (rw [cB oM] at q5; cases q5))).symm
     ·refine kO J (V3 J J (fun _ => (kM J J (V0 J J (V0 J J (V0 J J (V0 J J (kO J (W2 J J J (kM J J (V0 J J (V0 J J (V0 J J (V0 J J (kO J (W2 J J J (kM J J (V0 J J (V0 J J (V0 J J (V0 J J (V0 J J (V0 J J (V0 J J (V0 J J (V0 J J (kO J (W2 J J J ?_))))))))))))))))))))))))))) (fun h => absurd h dE))
      refine Q0 (Y0 J (rS (kM J J (Q0 (V2 (W3 (aV J ⟨congrArg (Value.int .i64) ?_, rfl⟩)))))))
      first
       | exact (if_pos ⟨oM, oM, oM, oM, by first | assumption | exact dF aM aM oM oM⟩).symm
       | exact (if_neg (fun h => by
        obtain ⟨q1, q2, q3, q4, q5⟩ := h
        first
         | omega
         | contradiction
         | (rw [dG aM] at q5; cases q5)
         | (rw [dH aM] at q5; cases q5)
         | (rw [cZ oM] at q5; cases q5)
         | (rw [cB oM] at q5; cases q5))).symm
    ·refine kG J J (U6 J (kO J (U1 J J J (Q0 (Y0 J (rS (kM J J (Q0 (V2 (W3 (aV J ⟨congrArg (Value.int .i64) ?_, rfl⟩)))))))))))
     first
      | exact (if_pos ⟨oM, oM, oM, oM, by first | assumption | exact dF aM aM oM oM⟩).symm
      | exact (if_neg (fun h => by
       obtain ⟨q1, q2, q3, q4, q5⟩ := h
       first
        | omega
        | contradiction
        | (rw [dG aM] at q5; cases q5)
        | (rw [dH aM] at q5; cases q5)
        | (rw [cZ oM] at q5; cases q5)
        | (rw [cB oM] at q5; cases q5))).symm
   ·refine kG J J (U6 J (kO J (U1 J J J (kM J J (V0 J J (V0 J J (V0 J J (V0 J J (V0 J J (kO J (W2 J J J (Q0 (Y0 J (rS (kM J J (Q0 (V2 (W3 (aV J ⟨congrArg (Value.int .i64) ?_, rfl⟩)))))))))))))))))))
    first
     | exact (if_pos ⟨oM, oM, oM, oM, by first | assumption | exact dF aM aM oM oM⟩).symm
     | exact (if_neg (fun h => by
      obtain ⟨q1, q2, q3, q4, q5⟩ := h
      first
       | omega
       | contradiction
       | (rw [dG aM] at q5; cases q5)
       | (rw [dH aM] at q5; cases q5)
       | (rw [cZ oM] at q5; cases q5)
       | (rw [cB oM] at q5; cases q5))).symm
  ·refine kG J J (U6 J (kO J (U1 J J J (kM J J (V0 J J (V0 J J (V0 J J (V0 J J (V0 J J (kO J (W2 J J J (kM J J (V0 J J (V0 J J (V0 J J (V0 J J (V0 J J (kO J (W2 J J J (Q0 (Y0 J (rS (kM J J (Q0 (V2 (W3 (aV J ⟨congrArg (Value.int .i64) ?_, rfl⟩)))))))))))))))))))))))))))
   first
    | exact (if_pos ⟨oM, oM, oM, oM, by first | assumption | exact dF aM aM oM oM⟩).symm
    | exact (if_neg (fun h => by
     obtain ⟨q1, q2, q3, q4, q5⟩ := h
     first
      | omega
      | contradiction
      | (rw [dG aM] at q5; cases q5)
      | (rw [dH aM] at q5; cases q5)
      | (rw [cZ oM] at q5; cases q5)
      | (rw [cB oM] at q5; cases q5))).symm
 ·refine kO J (U6 J (kM J J (V0 J J (V0 J J (V0 J J (V0 J J (kO J (W2 J J J (kM J J (V0 J J (V0 J J (V0 J J (V0 J J (V0 J J (kO J (W2 J J J (kM J J (V0 J J (V0 J J (V0 J J (V0 J J (V0 J J (kO J (W2 J J J (Q0 (Y0 J (rS ?_)))))))))))))))))))))))))))
  refine kM J J (Q0 (V2 (W3 (aV J ⟨congrArg (Value.int .i64) ?_, rfl⟩))))
  first
   | exact (if_pos ⟨oM, oM, oM, oM, by first | assumption | exact dF aM aM oM oM⟩).symm
   | exact (if_neg (fun h => by
    obtain ⟨q1, q2, q3, q4, q5⟩ := h
    first
     | omega
     | contradiction
     | (rw [dG aM] at q5; cases q5)
     | (rw [dH aM] at q5; cases q5)
     | (rw [cZ oM] at q5; cases q5)
     | (rw [cB oM] at q5; cases q5))).symm
theorem MW (n : Nat) (d r al up : Int) (a1 a2 : Option Addr) (c1 c2 : Nat) (l1 l2 : List Int) (x y : Int) (s : St) (hs : Wf s) (hn : 281474976710656 <= n) (hl1 : aI s a1 l1) (hl2 : aI s a2 l2) : bW Tryz.prog (cA cH) X (n + 60) 46 [.agg ⟨[.int .i64 d, .int .i64 r, .slice a1 l1.length c1, .slice a2 l2.length c2, .int .i64 al, .int .i64 up]⟩, .int .i64 x, .int .i64 y] s (fun v A => v = .bool (decide ((0 <= x /\ x <= (l1.length : Int) - 1) /\ (0 <= y /\ y <= (l2.length : Int) - 1))) /\ A = []) := by
 refine enter LE rfl hs ?_;unfold Kq;have hlen1 := hl1.len;have hlen2 := hl2.len;refine rS (kO J (bI J J J (fun b1 => (kM J J (Q0 (rS (kM J J (kO J (Q2 J (kO J (Y1 J .here rfl (kO J (aJ J hl1.spot (kO J (bX J J oM (kO J (bH J J (fun s1 h1 => fR _ _ _ _ s1 h1.wf) (fun h2 => ?_) (fun h2 => ?_))))))))))))))))))
 ·refine kM J J (kG J J (U2 J (kG J J (Q2 J (kG J J (Y1 J .here rfl (kG J J (aJ J hl2.spot (kG J J (bX J J oM (kG J J (bH J J (fun s1 h1 => fR _ _ _ _ s1 h1.wf) (fun h3 => ?_) (fun h3 => ?_)))))))))))))
  ·refine kO J (W2 J J J (kM J J (Q0 (V2 (aV J ⟨congrArg Value.bool ?_, rfl⟩)))))
   first | exact (decide_eq_true ⟨oM, oM⟩).symm | exact (decide_eq_false (fun h => oM)).symm
  ·refine kO J (W2 J J J (kM J J (Q0 (V2 (aV J ⟨congrArg Value.bool ?_, rfl⟩)))))
   first | exact (decide_eq_true ⟨oM, oM⟩).symm | exact (decide_eq_false (fun h => oM)).symm
 ·refine kM J J (V0 J J (V0 J J (V0 J J (V0 J J (V0 J J (V0 J J (kO J (U1 J J J (kM J J (Q0 (V2 (aV J ⟨congrArg Value.bool ?_, rfl⟩))))))))))))
  first | exact (decide_eq_true ⟨oM, oM⟩).symm | exact (decide_eq_false (fun h => oM)).symm
end
end Ev
end Go.Proofs.YtjkdkpckjgaplaaGreat
namespace Go.Proofs.YtjkdkpckjgaplaaGreat.Ev
open Go Go.RowKit
noncomputable section
def AF : Go.Obj -> Bool
 | .cells _ _ _ => true
 | _ => false
def I6 (W : World) : Mp := fun i => match W.heap[i]? with
 | some o => if AF o then some (i, 0) else none
 | none => none
def Ex : Value -> Option Value
 | .slice (some _) 0 _ => some (.slice (some ⟨0, 0, none⟩) 0 (OPEN + 1))
 | _ => none
open Classical in
def Ey (W : World) : Go.Obj -> dK
 | .cells cs _ _ => .rom (fun j => match cs[j]? with | some v => if VR (I6 W) v v /\ oneCell v = true then some v else Ex v | none => none)
 | _ => .dead
def AG (W : World) : St := ⟨BT.ofList (W.heap.toList.map (Ey W)), W.heap.size⟩
theorem uV {α : Type} (l : List α) : dC (BT.ofList l) l.length := by
 have := zG (l := l) (t := (.leaf : BT α)) (n := 0) (by simp [dC]);rw [Nat.zero_add] at this;exact this
theorem FJ {α : Type} {l : List α} {i : Nat} {v : α} (h : l[i]? = some v) : (BT.ofList l).get i = some v := by
 have hi : i < l.length := (List.getElem?_eq_some_iff.1 h).1;obtain ⟨u, hu⟩ := Option.isSome_iff_exists.1 ((uV l).some i hi);have := nH hu;rw [h] at this; cases this; exact hu
theorem Oa (W : World) : Wf (AG W) := by
 have := uV (W.heap.toList.map (Ey W));simpa [AG, Wf] using this
theorem C1 {W : World} {b : Nat} {o : Go.Obj} (h : W.heap[b]? = some o) : (AG W).h.get b = some (Ey W o) := by
 refine FJ ?_;rw [List.getElem?_map];have : W.heap.toList[b]? = some o := by simpa using h
 rw [this]; rfl
theorem vN {W : World} {i x y : Nat} (h : I6 W i = some (x, y)) : x = i /\ ∃ cs e fr, W.heap[i]? = some (.cells cs e fr) := by
 unfold I6 at h;split at h
 ·rename_i o ho
  cases o with
  | cells cs e fr => simp [AF] at h; exact ⟨h.1.symm, cs, e, fr, ho⟩
  | _ => simp [AF] at h
 ·cases h
theorem Oc {W : World} {i : Nat} {cs : Array Value} {e : Nat} {fr : Nat × Nat} (h : W.heap[i]? = some (.cells cs e fr)) : I6 W i = some (i, 0) := by
 unfold I6; rw [h]; rfl
theorem FK (P : Program) (W : World) : cN P (fun _ => none) W.heap.size (I6 W) (AG W) W := by
 refine ⟨fun i x y hi => ?_, fun i p hi => ?_, fun i x y o hi ho => ?_, fun i j x y y' hi hj hij hB => ?_, Nat.le_refl _, fun i o h => by cases h⟩
 ·obtain ⟨rfl, cs, e, fr, h⟩ := vN hi
  exact ⟨.inr ⟨_, C1 h⟩, (Array.getElem?_eq_some_iff.1 h).1⟩
 ·obtain ⟨x, y⟩ := p
  obtain ⟨_, cs, e, fr, h⟩ := vN hi;exact (Array.getElem?_eq_some_iff.1 h).1
 ·obtain ⟨rfl, cs, e, fr, h⟩ := vN hi
  have h1 := C1 h;rw [ho] at h1;have h2 : o = Ey W (.cells cs e fr) := Option.some.inj h1;subst h2;refine ⟨_, h, cs, e, fr, rfl, fun j v hj => ?_⟩;dsimp only at hj;split at hj
  ·rename_i u hu
   split at hj
   ·rename_i hc
    cases hj;exact ⟨hc.2, _, hu, hc.1⟩
   ·unfold Ex at hj
    split at hj
    ·cases hj
     refine ⟨rfl, _, hu, ?_⟩;simp only [VR];refine ⟨trivial, ?_⟩;rw [if_neg oM, if_neg oM];exact ⟨_, _, rfl⟩
    ·cases hj
  ·cases hj
 ·obtain ⟨rfl, cs, e, fr, h⟩ := vN hi
  have := (Array.getElem?_eq_some_iff.1 h).1;omega
theorem H8 {W : World} {b o : Nat} {v : Value} (h : W.cell? ⟨b, o, none⟩ = some v) (hv : VR (I6 W) v v) (h1 : oneCell v = true) : At (AG W) b o v := by
 have hb : ∃ cs e fr, W.heap[b]? = some (.cells cs e fr) /\ cs[o]? = some v := by
  unfold World.cell? at h;dsimp only at h;split at h
  ·rename_i cs e fr hh; exact ⟨cs, e, fr, by first | exact hh | exact hh.1, h⟩
  ·cases h
 obtain ⟨cs, e, fr, h2, h3⟩ := hb;refine ⟨_, .inr (C1 h2), ?_⟩;simp [h3, hv, h1]
theorem cN.below {P : Program} {K : Kp} {B : Nat} {m : Mp} {s : St} {w w' : World} (E : cN P K B m s w) (h : Below w.heap.size w w') : cN P K B m s w' := by
 have hs : w.heap.size <= w'.heap.size := h.size;refine ⟨fun i x y hi => ⟨(E.low i x y hi).1, Nat.lt_of_lt_of_le (E.low i x y hi).2 hs⟩, E.old, fun i x y o hi ho => ?_, E.inj, Nat.le_trans E.base hs, E.kept⟩;obtain ⟨o', h1, h2⟩ := E.obj i x y o hi ho;exact ⟨o', (h.block x (E.low i x y hi).2).trans h1, h2⟩
def nU (g : Nat) : FuncId -> List Value -> St -> (Value -> St -> Bool) -> Bool := fun f vs s k => Nat.beq f g && (match vs with | [] => true | _ => false) && k (.bool true) s
theorem H9 {P : Program} {g : Nat} {c : CF} (hc : compF P g = some c) (h : ∀ w, Calls P g #[] w fun e w' => e = .returned (.bool true) /\ Below w.heap.size w w') : iR P (nU g) := by
 intro K B f vs s k hk m w us E hv;unfold nU at hk;simp only [Bool.and_eq_true] at hk;obtain ⟨⟨h1, h2⟩, h3⟩ := hk;have hf : f = g := by simpa using h1
 subst hf;cases vs with
 | cons v l => cases h2
 | nil =>
  have : us = [] := by simpa only [LR] using hv
  subst this;obtain ⟨fn, cd, r, e1, e2, e3, e4, _⟩ := tJ hc;refine ⟨fun w => ?_, CallsIn.mono ((callsIn_wide (n := 0)).2 (h w)) (fun e w' he => ?_)⟩
  ·have h4' : ¬ fn.name = "runtime.NumGoroutine" := by simpa using e4
   simp [callFunc, e1, e2, h4']
  ·obtain ⟨rfl, hb⟩ := he
   exact ⟨.bool true, s, m, h3, Mp.le_refl m, E.below hb, hb.mono E.base, by simp only [VR]⟩
theorem Ia {P : Program} {t : BT (Option CF)} (h : Holds P t 0 1) {X : FuncId -> List Value -> St -> (Value -> St -> Bool) -> Bool} (hX : iR P X) {n : Nat} {f : FuncId} {vs us : List Value} {W : World} (hs : bW P (cA t) X n f vs (AG W) (fun v A => v = .bool true /\ A = [])) (hv : LR (I6 W) vs us) :
 Calls P f ⟨us⟩ W (fun e w' => e = .returned (.bool true) /\ Below W.heap.size W w') := by
 refine Calls.mono (JF h hX (k := fun v _ => F3 v) (hs _ (fun v s' hq => by obtain ⟨A, _, rfl, _⟩ := hq; rfl)) (FK P W) hv) (fun e w' he => ?_);obtain ⟨u, rfl, h1, v, s', m', h2, _, _, h3⟩ := he;obtain ⟨b, rfl, h4⟩ := nG (k := fun b => b) h2;have hb : b = true := h4;subst hb;have : u = .bool true := by simpa only [VR] using h3
 exact ⟨by rw [this], h1⟩
/-! What the row lets in stands for itself. -/
theorem VR.int {m : Mp} (k : IntKind) (n : Int) : VR m (.int k n) (.int k n) := by simp only [VR]
theorem VR.slice0 {m : Mp} : VR m (.slice none 0 0) (.slice none 0 0) := by simp only [VR]; exact ⟨dE, trivial⟩
theorem VR.slice1 {W : World} {b o n c : Nat} {cs : Array Value} {e : Nat} {fr : Nat × Nat} (h : W.heap[b]? = some (.cells cs e fr)) (hc : c < OPEN) : VR (I6 W) (.slice (some ⟨b, o, none⟩) n c) (.slice (some ⟨b, o, none⟩) n c) := by
 simp only [VR];refine ⟨trivial, ?_⟩;rw [if_pos hc];exact ⟨b, 0, Oc h, rfl⟩
theorem VR.agg {m : Mp} {l l' : List Value} (h : LR m l l') : VR m (.agg ⟨l⟩) (.agg ⟨l'⟩) := by
 simp only [VR, AR];exact ⟨_, rfl, l', rfl, h⟩
theorem LR.nil {m : Mp} : LR m [] [] := by simp only [LR]
theorem LR.cons {m : Mp} {v v' : Value} {l l' : List Value} (h : VR m v v') (hl : LR m l l') : LR m (v :: l) (v' :: l') := by
 simp only [LR];exact ⟨v', l', rfl, h, hl⟩
def NiceS (W : World) (a : Option Addr) (n c : Nat) : Prop := (a = none /\ n = 0 /\ c = 0) ∨ ∃ b o cs e fr, a = some ⟨b, o, none⟩ /\ W.heap[b]? = some (.cells cs e fr) /\ c < OPEN
theorem NiceS.vr {W : World} {a : Option Addr} {n c : Nat} (h : NiceS W a n c) : VR (I6 W) (.slice a n c) (.slice a n c) := by
 rcases h with ⟨rfl, rfl, rfl⟩ | ⟨b, o, cs, e, fr, rfl, h, hc⟩
 ·exact VR.slice0
 ·exact VR.slice1 h hc
theorem NiceS.spot {W : World} {a : Option Addr} {n c : Nat} (h : NiceS W a n c) : ∀ b, a = some b -> b.spot = none := by
 rcases h with ⟨rfl, rfl, rfl⟩ | ⟨b, o, cs, e, fr, rfl, h, hc⟩
 ·intro b hb; cases hb
 ·intro b hb; cases hb; rfl
theorem nV {P : Program} {W : World} {r : Reach} {b0 : Nat} {t e : TypeId} {v : Value} (ht : P.underlying t = some (.slice e)) (h : Cell.okWide P W r b0 t v) : ∃ a n c, v = .slice a n c /\ NiceS W a n c := by
 simp only [Cell.okWide, ht] at h;unfold Cell.ok at h;rw [ht] at h;split at h
 all_goals first
  | exact absurd h id
  | (rename_i h1; cases h1; done)
  | exact ⟨_, _, _, rfl, .inl ⟨rfl, rfl, rfl⟩⟩
  | skip
 all_goals first
  | (
   rename_i a len cap _; obtain ⟨h1, h2, _, hs, row, cells, h3, _⟩ := h
   refine ⟨_, _, _, rfl, .inr ?_⟩;obtain ⟨b, o, spot⟩ := a;have hs' : spot = none := hs;subst hs';unfold World.shape? at h3;split at h3
   ·rename_i cs e' fr hh
    exact ⟨b, o, _, _, _, rfl, hh, by simp [IntKind.max, IntKind.signed, IntKind.bits] at h2; unfold OPEN; omega⟩
   ·cases h3)
  | simp_all
end
end Go.Proofs.YtjkdkpckjgaplaaGreat.Ev
