import Derived.Test.YtcpebhdbpkhhiaaGreatZa03
set_option linter.unusedVariables false
set_option linter.unusedSimpArgs false
/- What each operation does: arithmetic, comparisons, choices. No program here. -/
namespace Go.Proofs.YtcpebhdbpkhhiaaGreat.Ev
open Go Go.RowKit

theorem kindEq_eq {a b : IntKind} (h : kindEq a b = true) : a = b := by cases a <;> cases b <;> first | rfl | (simp [kindEq] at h)
theorem intEq_eq (a b : Int) : intEq a b = (a == b) := by
  apply Bool.eq_iff_iff.2
  cases a <;> cases b <;> simp [intEq, Nat.beq_eq] <;> omega
theorem intLt_eq (a b : Int) : intLt a b = decide (a < b) := by
  apply Bool.eq_iff_iff.2
  cases a <;> cases b <;> simp [intLt, Nat.blt_eq] <;> omega
theorem wrapq_eq (k : IntKind) (n : Int) : wrapq k n = k.wrap n := by
  cases k <;> try rfl
  simp only [wrapq]
  cases hf : fits n with
  | false => rfl
  | true =>
    show n = IntKind.wrap .i64 n
    have hr : -9223372036854775808 ≤ n ∧ n < 9223372036854775808 := by
      cases n with
      | ofNat a => simp only [fits, Nat.blt_eq] at hf; show -9223372036854775808 ≤ (a : Int) ∧ (a : Int) < 9223372036854775808; constructor <;> omega
      | negSucc a => simp only [fits, Nat.blt_eq] at hf; constructor <;> omega
    have e1 : ((2 : Int) ^ IntKind.i64.bits) = 18446744073709551616 := by decide
    have e2 : ((2 : Int) ^ (IntKind.i64.bits - 1)) = 9223372036854775808 := by decide
    unfold IntKind.wrap
    simp only [e1, e2]
    have e3 : IntKind.i64.signed = true := rfl
    rw [e3]
    simp only [Bool.true_and, decide_eq_true_eq]
    split <;> omega

/-- No test is made ahead of the comparison. -/
theorem nilKind_five {P : Program} {t : Nat} (h : nilKind P t = 5) : P.eqGuardType P.depth t = false := by
  have hs : sel (P.eqGuardType P.depth t) 0 5 = 5 → P.eqGuardType P.depth t = false := by cases P.eqGuardType P.depth t <;> simp [sel]
  unfold nilKind at h
  cases hu : P.underlying t with
  | none => rw [hu] at h; cases h
  | some D =>
    rw [hu] at h
    cases D with
    | struct fs => exact hs h
    | array n e => exact hs h
    | _ => cases h
theorem run_eqGuard {P : Program} {b : BinOp} {t : TypeId} {xo yo : Operand} {x y : Value} (h : noGuard (nilKind P t) x = true) (w : World) : (eqGuard b t xo yo x y).run P w = .ok () w := by
  cases x with
  | agg l =>
    have h5 : nilKind P t = 5 := by simpa [noGuard] using h
    have := nilKind_five h5
    unfold eqGuard
    cases b <;> simp <;> (cases y <;> simp_all)
  | nilIface => cases h
  | _ =>
    unfold eqGuard
    cases b <;> simp
theorem intBin_ok {P : Program} {b : BinOp} {i : IntKind} {x y : Int} {v : Value} (h : intBin b i x y = some v) (t : TypeId) (w : World) : (binOp b t (.int i x) (.int i y)).run P w = .ok v w ∧ flat v = true := by
  have hd : ∀ (r : Value), sel (intEq y 0) none (some r) = some v → y ≠ 0 ∧ v = r := by
    intro r h
    rw [intEq_eq] at h
    by_cases hy : y = 0
    · subst hy; simp [sel] at h
    · have : (y == 0) = false := by simpa using hy
      rw [this] at h
      exact ⟨hy, (Option.some.inj h).symm⟩
  cases b with
  | quo =>
    obtain ⟨hy, rfl⟩ := hd _ h
    refine ⟨?_, rfl⟩
    simp [binOp, Op.intDiv, hy, wrapq_eq]
  | rem =>
    obtain ⟨hy, rfl⟩ := hd _ h
    refine ⟨?_, rfl⟩
    simp [binOp, Op.intDiv, hy]
  | and | or | xor | shl | shr | andNot => simp [intBin] at h
  | add | sub | mul =>
    simp only [intBin, wrapq_eq, Option.some.injEq] at h
    subst h
    exact ⟨by simp [binOp, Op.intArith], rfl⟩
  | eql | neq =>
    simp only [intBin, intEq_eq, Option.some.injEq] at h
    subst h
    exact ⟨by simp [binOp, Op.intCmp, bne], rfl⟩
  | lss | gtr =>
    simp only [intBin, intLt_eq, Option.some.injEq] at h
    subst h
    exact ⟨by simp [binOp, Op.intCmp], rfl⟩
  | leq | geq =>
    simp only [intBin, intLt_eq, Option.some.injEq] at h
    subst h
    exact ⟨by simp [binOp, Op.intCmp, ← decide_not], rfl⟩

theorem VR.slice_some {m : Mp} {a : Addr} {n c : Nat} {u : Value} (h : VR m (.slice (some a) n c) u) : ∃ a' n' c', u = .slice (some a') n' c' := by
  simp only [VR] at h
  have h := h.2
  by_cases h1 : c < OPEN
  · rw [if_pos h1] at h; obtain ⟨x, y, _, rfl⟩ := h; exact ⟨_, _, _, rfl⟩
  · rw [if_neg h1] at h
    by_cases h2 : c = OPEN ∨ n ≠ 0
    · rw [if_pos h2] at h; obtain ⟨x, y, _, rfl⟩ := h; exact ⟨_, _, _, rfl⟩
    · rw [if_neg h2] at h; obtain ⟨x, y, rfl⟩ := h; exact ⟨_, _, _, rfl⟩
theorem VR.slice_none {m : Mp} {n c : Nat} {u : Value} (h : VR m (.slice none n c) u) : u = .slice none n c := by simp only [VR] at h; exact h.2
theorem VR.ptr_some {m : Mp} {a : Addr} {u : Value} (h : VR m (.pointer (some a)) u) : ∃ a', u = .pointer (some a') := by
  simp only [VR] at h; obtain ⟨_, x, y, _, rfl⟩ := h; exact ⟨_, rfl⟩
theorem VR.func_inv {m : Mp} {f : Fn} {p c : Array Value} {u : Value} (h : VR m (.func f p c) u) : ∃ f' p' c', u = .func f' p' c' := by
  cases f with
  | func g => simp only [VR] at h; obtain ⟨p', c', rfl, _⟩ := h; exact ⟨_, _, _, rfl⟩
  | yield l => simp only [VR] at h; obtain ⟨x, y, p', c', _, rfl, _⟩ := h; exact ⟨_, _, _, rfl⟩
  | _ => simp [VR] at h
theorem nilKind_inv {P : Program} {t d : Nat} (hd : nilKind P t = d) (h0 : d ≠ 0) (h5 : d ≠ 5) : ∃ D, P.underlying t = some D ∧ ((∃ e, D = .slice e ∧ d = 1) ∨ (∃ e, D = .pointer e ∧ d = 2) ∨ (∃ a b c, D = .func a b c ∧ d = 3) ∨ (∃ e, D = .interface e ∧ d = 4)) := by
  unfold nilKind at hd
  cases hu : P.underlying t with
  | none => rw [hu] at hd; exact absurd hd.symm h0
  | some D =>
    rw [hu] at hd
    refine ⟨D, rfl, ?_⟩
    cases D with
    | slice e => exact .inl ⟨e, rfl, hd.symm⟩
    | pointer e => exact .inr (.inl ⟨e, rfl, hd.symm⟩)
    | func a b c => exact .inr (.inr (.inl ⟨a, b, c, rfl, hd.symm⟩))
    | interface e => exact .inr (.inr (.inr ⟨e, rfl, hd.symm⟩))
    | struct fs =>
      have : d = 0 ∨ d = 5 := by rw [← hd]; show sel (P.eqGuardType P.depth t) 0 5 = 0 ∨ sel (P.eqGuardType P.depth t) 0 5 = 5; cases P.eqGuardType P.depth t <;> simp [sel]
      rcases this with e | e
      · exact absurd e h0
      · exact absurd e h5
    | array n e =>
      have : d = 0 ∨ d = 5 := by rw [← hd]; show sel (P.eqGuardType P.depth t) 0 5 = 0 ∨ sel (P.eqGuardType P.depth t) 0 5 = 5; cases P.eqGuardType P.depth t <;> simp [sel]
      rcases this with e | e
      · exact absurd e h0
      · exact absurd e h5
    | _ => exact absurd hd.symm h0

theorem guard_run {P : Program} {b : BinOp} {t : TypeId} {u v : Value} (xo yo : Operand) (ha : ∀ l l', ¬ (u = .agg l ∧ v = .agg l')) (hni : ¬ (u = .nilIface ∧ v = .nilIface)) (w : World) : (eqGuard b t xo yo u v).run P w = .ok () w := by
  have key : ∀ c : Bool, ((do
      if !c then return
      match u, v with
      | .nilIface, .nilIface =>
        if (xo matches .const _) || (yo matches .const _) then return
        if ← Op.eqGuardIn Op.maxDepth t u v then unsupported (.noEntry "binop/eql: two nil values of an interface type with methods, neither of them the literal nil")
      | .agg _, .agg _ =>
        if !(← program).eqGuardType (← program).depth t then return
        if ← Op.eqGuardIn Op.maxDepth t u v then unsupported (.noEntry "binop/eql: two nil values of an interface type with methods, in a part of a struct or an array")
      | _, _ => pure ()) : Sem Unit).run P w = .ok () w := by
    intro c
    cases c with
    | false => rfl
    | true =>
      simp only [Bool.not_true, Bool.false_eq_true, if_false]
      split
      · exact absurd ⟨rfl, rfl⟩ hni
      · rename_i l l'; exact absurd ⟨rfl, rfl⟩ (ha l l')
      · rfl
  exact key _

set_option maxHeartbeats 1000000 in
theorem nil_ok {P : Program} {m : Mp} {t d : Nat} {b : BinOp} {x y u v r : Value} (hd : nilKind P t = d) (hx : VR m x u) (hy : VR m y v) (hn : nilCmp d x y = true) (hr : evNil b = some r) (xo yo : Operand) (w : World) :
    (do eqGuard b t xo yo u v; binOp b t u v : Sem Value).run P w = .ok r w ∧ flat r = true := by
  have h0 : d ≠ 0 := by rintro rfl; simp [nilCmp] at hn
  obtain ⟨D, hu, hD⟩ := nilKind_inv hd h0 (by rintro rfl; simp [nilCmp] at hn)
  have h1 : ∀ u v, (Op.equal t u v).run P w = .ok false w → (∀ xo yo, (eqGuard b t xo yo u v).run P w = .ok () w) → (∀ b', (b' = .eql ∨ b' = .neq) → binOp b' t u v = (match b' with | .eql => do pure (.bool (← Op.equal t u v)) | _ => do pure (.bool (!(← Op.equal t u v))))) →
      (do eqGuard b t xo yo u v; binOp b t u v : Sem Value).run P w = .ok r w ∧ flat r = true := by
    intro u v he hg hb
    cases b <;> simp [evNil] at hr <;> subst hr
    · refine ⟨?_, rfl⟩
      rw [hb _ (.inl rfl)]; simp [hg, he]
    · refine ⟨?_, rfl⟩
      rw [hb _ (.inr rfl)]; simp [hg, he]
  have step : ∀ u v, (∀ n, (Op.equalIn (n + 1) t u v).run P w = .ok false w) → (Op.equal t u v).run P w = .ok false w := fun u v h => h 9999
  have guard : ∀ (u v : Value) xo yo, (∀ l l', ¬ (u = .agg l ∧ v = .agg l')) → ¬ (u = .nilIface ∧ v = .nilIface) → (eqGuard b t xo yo u v).run P w = .ok () w := fun u v xo yo ha hni => guard_run xo yo ha hni w
  unfold nilCmp at hn
  split at hn
  · obtain ⟨a', n', c', rfl⟩ := hy.slice_some
    have := hx.slice_none; subst this
    rcases hD with ⟨e, rfl, _⟩ | ⟨e, _, h⟩ | ⟨_, _, _, _, h⟩ | ⟨e, _, h⟩ <;> try (simp at h; done)
    refine h1 _ _ ?_ (fun xo yo => guard _ _ xo yo (by simp) (by simp)) (by rintro b' (rfl | rfl) <;> rfl)
    exact step _ _ (fun n => by unfold Op.equalIn; simp [run_und hu])
  · obtain ⟨a', n', c', rfl⟩ := hx.slice_some
    have := hy.slice_none; subst this
    rcases hD with ⟨e, rfl, _⟩ | ⟨e, _, h⟩ | ⟨_, _, _, _, h⟩ | ⟨e, _, h⟩ <;> try (simp at h; done)
    refine h1 _ _ ?_ (fun xo yo => guard _ _ xo yo (by simp) (by simp)) (by rintro b' (rfl | rfl) <;> rfl)
    exact step _ _ (fun n => by unfold Op.equalIn; simp [run_und hu])
  · obtain ⟨a', rfl⟩ := hy.ptr_some
    have : u = .pointer none := by simpa only [VR] using hx
    subst this
    rcases hD with ⟨e, _, h⟩ | ⟨e, rfl, _⟩ | ⟨_, _, _, _, h⟩ | ⟨e, _, h⟩ <;> try (simp at h; done)
    refine h1 _ _ ?_ (fun xo yo => guard _ _ xo yo (by simp) (by simp)) (by rintro b' (rfl | rfl) <;> rfl)
    exact step _ _ (fun n => by unfold Op.equalIn; simp [run_und hu])
  · obtain ⟨a', rfl⟩ := hx.ptr_some
    have : v = .pointer none := by simpa only [VR] using hy
    subst this
    rcases hD with ⟨e, _, h⟩ | ⟨e, rfl, _⟩ | ⟨_, _, _, _, h⟩ | ⟨e, _, h⟩ <;> try (simp at h; done)
    refine h1 _ _ ?_ (fun xo yo => guard _ _ xo yo (by simp) (by simp)) (by rintro b' (rfl | rfl) <;> rfl)
    exact step _ _ (fun n => by unfold Op.equalIn; simp [run_und hu])
  · obtain ⟨f', p', c', rfl⟩ := hy.func_inv
    have : u = .nilFunc := by simpa only [VR] using hx
    subst this
    rcases hD with ⟨e, _, h⟩ | ⟨e, _, h⟩ | ⟨_, _, _, rfl, _⟩ | ⟨e, _, h⟩ <;> try (simp at h; done)
    refine h1 _ _ ?_ (fun xo yo => guard _ _ xo yo (by simp) (by simp)) (by rintro b' (rfl | rfl) <;> rfl)
    exact step _ _ (fun n => by unfold Op.equalIn; simp [run_und hu])
  · obtain ⟨f', p', c', rfl⟩ := hx.func_inv
    have : v = .nilFunc := by simpa only [VR] using hy
    subst this
    rcases hD with ⟨e, _, h⟩ | ⟨e, _, h⟩ | ⟨_, _, _, rfl, _⟩ | ⟨e, _, h⟩ <;> try (simp at h; done)
    refine h1 _ _ ?_ (fun xo yo => guard _ _ xo yo (by simp) (by simp)) (by rintro b' (rfl | rfl) <;> rfl)
    exact step _ _ (fun n => by unfold Op.equalIn; simp [run_und hu])
  · have : u = .nilIface := by simpa only [VR] using hx
    subst this
    simp only [VR] at hy
    obtain ⟨v', rfl, _⟩ := hy
    rcases hD with ⟨e, _, h⟩ | ⟨e, _, h⟩ | ⟨_, _, _, _, h⟩ | ⟨e, rfl, _⟩ <;> try (simp at h; done)
    refine h1 _ _ ?_ (fun xo yo => guard _ _ xo yo (by simp) (by simp)) (by rintro b' (rfl | rfl) <;> rfl)
    exact step _ _ (fun n => by unfold Op.equalIn; simp [run_und hu])
  · have : v = .nilIface := by simpa only [VR] using hy
    subst this
    simp only [VR] at hx
    obtain ⟨v', rfl, _⟩ := hx
    rcases hD with ⟨e, _, h⟩ | ⟨e, _, h⟩ | ⟨_, _, _, _, h⟩ | ⟨e, rfl, _⟩ <;> try (simp at h; done)
    refine h1 _ _ ?_ (fun xo yo => guard _ _ xo yo (by simp) (by simp)) (by rintro b' (rfl | rfl) <;> rfl)
    exact step _ _ (fun n => by unfold Op.equalIn; simp [run_und hu])
  · cases hn

theorem bin_ok {P : Program} {m : Mp} {t : Nat} {b : BinOp} {x y u v r : Value} (hx : VR m x u) (hy : VR m y v) (h : evBin P b t (nilKind P t) x y = some r) (xo yo : Operand) (w : World) :
    (do eqGuard b t xo yo u v; binOp b t u v : Sem Value).run P w = .ok r w ∧ VR m r r := by
  have two : ∀ {x y u v r : Value}, VR m x u → VR m y v → evBin2 P b t (nilKind P t) x y = some r → (do eqGuard b t xo yo u v; binOp b t u v : Sem Value).run P w = .ok r w ∧ VR m r r := by
    intro x y u v r hx hy h
    unfold evBin2 at h
    cases hf : flat x && flat y && noGuard (nilKind P t) x with
    | false => rw [hf] at h; cases h
    | true =>
      rw [hf] at h
      simp only [Bool.and_eq_true] at hf
      obtain ⟨h1, h2⟩ := flatR_inv (show flatR (pureVal P (binOp b t x y)) = some r from h)
      rw [VR.same x hf.1.1 hx, VR.same y hf.1.2 hy]
      refine ⟨?_, VR.flat r h2⟩
      rw [Sem.run_bind, run_eqGuard hf.2]
      exact pureVal_run h1 w
  unfold evBin at h
  split at h
  · rename_i k mm k' nn
    have e1 := hx.int_inv; subst e1
    have e2 := hy.int_inv; subst e2
    cases hk : kindEq k k' with
    | false => rw [hk] at h; exact two hx hy h
    | true =>
      rw [hk] at h
      have := kindEq_eq hk; subst this
      have h' : orElse (intBin b k mm nn) (evBin2 P b t (nilKind P t) (.int k mm) (.int k nn)) = some r := h
      cases hi : intBin b k mm nn with
      | none => rw [hi] at h'; exact two hx hy h'
      | some q =>
        rw [hi] at h'
        have hq : q = r := Option.some.inj h'
        subst hq
        obtain ⟨h1, h2⟩ := intBin_ok (P := P) hi t w
        refine ⟨?_, VR.flat _ h2⟩
        rw [Sem.run_bind, run_eqGuard (by rfl)]
        exact h1
  · cases hc : nilCmp (nilKind P t) x y with
    | true =>
      rw [hc] at h
      obtain ⟨h1, h2⟩ := nil_ok (P := P) (t := t) rfl hx hy hc (show evNil b = some r from h) xo yo w
      exact ⟨h1, VR.flat _ h2⟩
    | false => rw [hc] at h; exact two hx hy h
end Go.Proofs.YtcpebhdbpkhhiaaGreat.Ev

/- What each operation does: slices. No program here. -/
namespace Go.Proofs.YtcpebhdbpkhhiaaGreat.Ev
open Go Go.RowKit

/-- A number that may be there. -/
def VO (m : Mp) : Option Value → Option Value → Prop
  | none, v => v = none
  | some u, v => ∃ u', v = some u' ∧ VR m u u'
theorem natOf_inv {v : Value} {n : Nat} (h : natOf v = some n) : ∃ k, v = .int k (.ofNat n) := by
  unfold natOf at h
  split at h
  · rename_i k j; cases h; exact ⟨k, rfl⟩
  · cases h
theorem run_bound {P : Program} {m : Mp} {v u : Value} {n y : Nat} (hv : VR m v u) (h : natOf v = some n) (hle : n ≤ y) (code : BoundsCode) (w : World) : (Instr.sliceBound u y code).run P w = .ok n w := by
  obtain ⟨k, rfl⟩ := natOf_inv h
  have := hv.int_inv; subst this
  simp [Instr.sliceBound, asIntOf, hle]
/-- The bounds of a slicing. -/
theorem run_bounds {P : Program} {m : Mp} {lo hi mx lo' hi' mx' : Option Value} {len cap l h : Nat} {M : Option Nat} (h1 : VO m lo lo') (h2 : VO m hi hi') (h3 : VO m mx mx') (b1 : bnd 0 lo = some l) (b2 : bnd len hi = some h) (b3 : evMx mx = some M)
    (hx : mx.isNone = true ∨ hi.isSome = true) (hl : l ≤ h) (hh : hi.isSome = true → h ≤ M.getD cap) (hM : ∀ n, M = some n → n ≤ cap) (w : World) :
    (Instr.sliceBounds true len cap lo' hi' mx').run P w = .ok (l, h, M.getD cap) w := by
  cases mx with
  | none =>
    simp only [VO] at h3; subst h3
    simp only [evMx, Option.some.injEq] at b3
    subst b3
    cases hi with
    | none =>
      simp only [VO] at h2; subst h2
      simp only [bnd, Option.some.injEq] at b2
      subst b2
      cases lo with
      | none => simp only [VO] at h1; subst h1; simp only [bnd, Option.some.injEq] at b1; subst b1; simp [Instr.sliceBounds]
      | some v => obtain ⟨u, rfl, hv⟩ := h1; simp [Instr.sliceBounds, run_bound hv (show natOf v = some l from b1) hl]
    | some a =>
      obtain ⟨a', rfl, ha⟩ := h2
      have e2 := fun c => run_bound (P := P) ha (show natOf a = some h from b2) (show h ≤ cap from hh rfl) c w
      cases lo with
      | none => simp only [VO] at h1; subst h1; simp only [bnd, Option.some.injEq] at b1; subst b1; simp [Instr.sliceBounds, e2]
      | some v => obtain ⟨u, rfl, hv⟩ := h1; simp [Instr.sliceBounds, e2, run_bound hv (show natOf v = some l from b1) hl]
  | some q =>
    obtain ⟨q', rfl, hq⟩ := h3
    cases hn : natOf q with
    | none => simp [evMx, hn] at b3
    | some n =>
      simp only [evMx, hn, Option.map_some, Option.some.injEq] at b3
      subst b3
      have e3 := fun c => run_bound (P := P) hq hn (hM n rfl) c w
      rcases hx with hx | hx
      · cases hx
      cases hi with
      | none => cases hx
      | some a =>
        obtain ⟨a', rfl, ha⟩ := h2
        have e2 := fun c => run_bound (P := P) ha (show natOf a = some h from b2) (show h ≤ n from hh rfl) c w
        cases lo with
        | none => simp only [VO] at h1; subst h1; simp only [bnd, Option.some.injEq] at b1; subst b1; simp [Instr.sliceBounds, e2, e3]
        | some v => obtain ⟨u, rfl, hv⟩ := h1; simp [Instr.sliceBounds, e2, e3, run_bound hv (show natOf v = some l from b1) hl]

theorem sel_inv {α : Type} {b : Bool} {x : Option α} {v : α} (h : sel b x none = some v) : b = true ∧ x = some v := by cases b <;> simp_all [sel]
theorem sel_eq {α : Type} (b : Bool) (x y : α) : sel b x y = if b = true then x else y := by cases b <;> rfl

theorem bnd_some {d n : Nat} {v : Option Value} (h : bnd d v = some n) : (v = none ∧ n = d) ∨ v.isSome = true := by
  cases v with
  | none => exact .inl ⟨rfl, (Option.some.inj h).symm⟩
  | some v => exact .inr rfl

theorem slc_ok {P : Program} {K : Kp} {B : Nat} {m : Mp} {s : St} {w : World} {t e : Nat} {i : TypeInfo} {x u r : Value} {lo hi mx lo' hi' mx' : Option Value} (ht : P.underlying t = some (.slice e)) (hin : P.info? e = some i) (hx : mx.isNone = true ∨ hi.isSome = true)
    (E : Emb P K B m s w) (hv : VR m x u) (h1 : VO m lo lo') (h2 : VO m hi hi') (h3 : VO m mx mx') (h : evSlc (rowOf s) e i.size x lo hi mx = some r) :
    ∃ r', (Instr.slice t u lo' hi' mx').run P w = .ok r' w ∧ VR m r r' := by
  unfold evSlc at h
  split at h
  · rename_i b off len cap
    split at h
    · rename_i l hh M b1 b2 b3
      rw [sel_eq] at h
      split at h
      · -- an open row
        rename_i hop
        have hop' : OPEN ≤ cap := by simpa using hop
        split at h
        · rename_i k e' op hrow
          obtain ⟨hc, hS⟩ := sel_inv h
          clear h
          simp only [Bool.and_eq_true, Bool.or_eq_true, Bool.not_eq_true', Nat.beq_eq] at hc
          obtain ⟨⟨⟨⟨hop1, hee⟩, hoff⟩, hsz⟩, hj⟩ := hc
          have hee' : e = e' := by simpa using hee
          subst hee'
          have hsz' : i.size ≠ 0 := by intro h0; rw [h0] at hsz; simp at hsz
          have hoff' : off = (cap - OPEN) * i.size := by simpa using hoff
          obtain ⟨N, c, hg, hN⟩ : ∃ N c, s.h.get b = some (.cells N c e true) ∧ N = k := by
            unfold rowOf at hrow
            split at hrow
            · rename_i n c e2 op2 hg
              simp only [Option.some.injEq, Prod.mk.injEq] at hrow
              obtain ⟨rfl, rfl, rfl⟩ := hrow
              subst hop1
              exact ⟨_, _, hg, rfl⟩
            · cases hrow
          subst hN
          have hcell : P.cellsOf e = i.size := by simp [Program.cellsOf, hin]
          have hj' : cap = OPEN ∨ len ≠ 0 := by
            rcases hj with h0 | h0
            · exact .inl (by simpa using h0)
            · exact .inr (by intro h5; rw [h5] at h0; simp at h0)
          obtain ⟨X, y, hm, hu⟩ : ∃ X y, m b = some (X, y) ∧ u = .slice (some ⟨X, off, none⟩) len (y - (cap - OPEN)) := by
            rcases hv.slice_inv with ⟨h5, _⟩ | ⟨_, _, X, y, h5, h6⟩ | ⟨h5, h6, _⟩
            · omega
            · exact ⟨X, y, h5, h6⟩
            · rcases hj' with h7 | h7 <;> omega
          subst hu
          obtain ⟨o', _, cs, rfl, hNs, _, hopn, _⟩ := E.obj b X y _ hm hg
          obtain ⟨X2, y2, hm2, hy⟩ := hopn rfl
          rw [hm] at hm2; cases hm2
          rw [hcell] at hy
          obtain ⟨j, hjd⟩ : ∃ j, cap - OPEN = j := ⟨_, rfl⟩
          rw [hjd] at hS hoff' ⊢
          have fit : ∀ n, n * i.size ≤ N → n ≤ y := fun n hn => Nat.le_of_mul_le_mul_right (by omega : n * i.size ≤ y * i.size) (by omega)
          unfold evSlcOpen at hS
          cases M with
          | none =>
            obtain ⟨hd, hq⟩ := sel_inv hS
            simp only [Bool.and_eq_true, Nat.ble_eq] at hd
            have hfit := fit (j + hh) hd.2
            have hq := Option.some.inj hq
            subst hq
            have hr := run_bounds (P := P) (cap := y - j) h1 h2 h3 b1 b2 b3 hx hd.1 (fun _ => by show hh ≤ y - j; omega) (fun n hn => by cases hn) w
            refine ⟨.slice (some (if y - j = l then ⟨X, off, none⟩ else (⟨X, off, none⟩ : Addr).add (l * i.size))) (hh - l) (y - j - l), ?_, ?_⟩
            · simp only [Instr.slice, Sem.run_bind, run_und ht, Result.andThen_ok, hr, run_sizeOf hin, Option.getD_none]
              split <;> simp_all
            · simp only [VR]
              refine ⟨trivial, ?_⟩
              rw [if_neg (by omega)]
              by_cases h0 : j + l = 0 ∨ hh - l ≠ 0
              · rw [if_pos (by rcases h0 with h0 | h0; · left; omega
                               · right; exact h0)]
                refine ⟨X, y, hm, ?_⟩
                have e1 : OPEN + (j + l) - OPEN = j + l := by omega
                rw [e1]
                by_cases hml : y - j = l
                · have : l = 0 ∧ j = 0 := by omega
                  obtain ⟨rfl, rfl⟩ := this
                  rw [if_pos hml, hoff']
                  simp
                · rw [if_neg hml, add_none, hoff', Nat.add_mul, show y - j - l = y - (j + l) by omega]
              · rw [if_neg (by omega)]
                have : hh - l = 0 := by omega
                exact ⟨_, _, by rw [this]⟩
          | some M =>
            obtain ⟨hd, hq⟩ := sel_inv hS
            simp only [Bool.and_eq_true, Nat.ble_eq, Nat.blt_eq] at hd
            have hfit := fit (j + M) hd.2
            have hq := Option.some.inj hq
            subst hq
            have hr := run_bounds (P := P) (cap := y - j) h1 h2 h3 b1 b2 b3 hx hd.1.1.1 (fun _ => hd.1.1.2) (fun n hn => by cases hn; omega) w
            refine ⟨.slice (some (if M = l then ⟨X, off, none⟩ else (⟨X, off, none⟩ : Addr).add (l * i.size))) (hh - l) (M - l), ?_, ?_⟩
            · simp only [Instr.slice, Sem.run_bind, run_und ht, Result.andThen_ok, hr, run_sizeOf hin, Option.getD_some]
              split <;> simp_all
            · simp only [VR]
              refine ⟨trivial, ?_⟩
              rw [if_pos (by omega)]
              refine ⟨X, y, hm, ?_⟩
              rw [sel_eq]
              by_cases hml : M = l
              · rw [if_pos hml, if_pos (by simpa using hml), hoff']
              · rw [if_neg hml, if_neg (by simpa using hml), add_none, hoff', Nat.add_mul]
        · cases h
      · -- a row whose cap is known
        rename_i hop
        have hop' : cap < OPEN := by
          have : ¬ OPEN ≤ cap := by simpa using hop
          omega
        obtain ⟨hhc, h⟩ := sel_inv h
        have hhc' : hh ≤ cap := by simpa using hhc
        obtain ⟨X, y, hm, hu⟩ : ∃ X y, m b = some (X, y) ∧ u = .slice (some ⟨X, off, none⟩) len cap := by
          rcases hv.slice_inv with ⟨_, X, y, h5, h6⟩ | ⟨h5, _⟩ | ⟨h5, _⟩
          · exact ⟨X, y, h5, h6⟩
          · omega
          · omega
        subst hu
        unfold evSlcAt at h
        cases M with
        | none =>
          obtain ⟨hc, h⟩ := sel_inv h
          have hc' : l ≤ hh := by simpa using hc
          cases h
          have hr := run_bounds (P := P) (cap := cap) h1 h2 h3 b1 b2 b3 hx hc' (fun _ => hhc') (fun n hn => by cases hn) w
          refine ⟨.slice (some (if cap = l then ⟨X, off, none⟩ else (⟨X, off, none⟩ : Addr).add (l * i.size))) (hh - l) (cap - l), ?_, ?_⟩
          · simp only [Instr.slice, Sem.run_bind, run_und ht, Result.andThen_ok, hr, run_sizeOf hin, Option.getD_none]
            split <;> simp_all
          · simp only [VR]
            refine ⟨trivial, ?_⟩
            rw [if_pos (by omega)]
            refine ⟨X, y, hm, ?_⟩
            rw [sel_eq]
            by_cases hml : cap = l
            · rw [if_pos hml, if_pos (by simpa using hml)]
            · rw [if_neg hml, if_neg (by simpa using hml), add_none]
        | some M =>
          obtain ⟨hc, h⟩ := sel_inv h
          simp only [Bool.and_eq_true, Nat.ble_eq] at hc
          cases h
          have hr := run_bounds (P := P) (cap := cap) h1 h2 h3 b1 b2 b3 hx hc.1.1 (fun _ => hc.1.2) (fun n hn => by cases hn; exact hc.2) w
          refine ⟨.slice (some (if M = l then ⟨X, off, none⟩ else (⟨X, off, none⟩ : Addr).add (l * i.size))) (hh - l) (M - l), ?_, ?_⟩
          · simp only [Instr.slice, Sem.run_bind, run_und ht, Result.andThen_ok, hr, run_sizeOf hin, Option.getD_some]
            split <;> simp_all
          · simp only [VR]
            refine ⟨trivial, ?_⟩
            rw [if_pos (by omega)]
            refine ⟨X, y, hm, ?_⟩
            rw [sel_eq]
            by_cases hml : M = l
            · rw [if_pos hml, if_pos (by simpa using hml)]
            · rw [if_neg hml, if_neg (by simpa using hml), add_none]
    · cases h
  · -- nil
    have hu := hv.slice_none
    subst hu
    split at h
    · rename_i b1 b2 b3
      cases h
      have hr := run_bounds (P := P) (len := 0) (cap := 0) h1 h2 h3 b1 b2 b3 hx (Nat.le_refl 0) (fun _ => Nat.le_refl _) (fun n hn => by cases hn) w
      refine ⟨.slice none 0 0, ?_, by simp only [VR]; exact ⟨by decide, trivial⟩⟩
      simp only [Instr.slice, Sem.run_bind, run_und ht, Result.andThen_ok, hr, run_sizeOf hin, Option.getD_none]
      rfl
    · rename_i b1 b2 b3
      cases h
      have hr := run_bounds (P := P) (len := 0) (cap := 0) h1 h2 h3 b1 b2 b3 hx (Nat.le_refl 0) (fun _ => Nat.le_refl _) (fun n hn => by cases hn; exact Nat.le_refl _) w
      refine ⟨.slice none 0 0, ?_, by simp only [VR]; exact ⟨by decide, trivial⟩⟩
      simp only [Instr.slice, Sem.run_bind, run_und ht, Result.andThen_ok, hr, run_sizeOf hin, Option.getD_some]
      rfl
    · cases h
  · cases h

theorem len_ok {P : Program} {m : Mp} {s : St} {w : World} {ts : Array Nat} {t0 e : Nat} {v u : Value} {k : Value → St → Bool} {ty : Nat} (h0 : ts[0]? = some t0) (ht : P.underlying t0 = some (.slice e)) (hv : VR m v u)
    (hk : onSlice v (fun n _ => k (.int .i64 (.ofNat n)) s) (fun _ _ n _ => k (.int .i64 (.ofNat n)) s) = true) :
    ∃ r, k r s = true ∧ (Builtin.len_ ts ty #[u]).run P w = .ok r w ∧ VR m r r := by
  have run : ∀ a n c, (Builtin.len_ ts ty #[.slice a n c]).run P w = .ok (.int .i64 n) w := by
    intro a n c
    simp [Builtin.len_, h0, run_und ht, goInt]
  rcases onSlice_inv hk with ⟨n, c, rfl, hk⟩ | ⟨b, o, n, c, rfl, hk⟩
  · have := hv.slice_none; subst this
    exact ⟨_, hk, run _ _ _, by simp only [VR]⟩
  · refine ⟨_, hk, ?_, by simp only [VR]⟩
    rcases hv.slice_inv with ⟨_, X, y, _, rfl⟩ | ⟨_, _, X, y, _, rfl⟩ | ⟨_, rfl, a, c', rfl⟩
    · exact run _ _ _
    · exact run _ _ _
    · exact run _ _ _
theorem cap_ok {P : Program} {m : Mp} {w : World} {ts : Array Nat} {t0 e : Nat} {v u r : Value} {ty : Nat} (h0 : ts[0]? = some t0) (ht : P.underlying t0 = some (.slice e)) (hv : VR m v u) (h : evCap v = some r) :
    (Builtin.cap_ ts ty #[u]).run P w = .ok r w ∧ VR m r r := by
  have run : ∀ a n c, (Builtin.cap_ ts ty #[.slice a n c]).run P w = .ok (.int .i64 c) w := by
    intro a n c
    simp [Builtin.cap_, h0, run_und ht, goInt]
  unfold evCap at h
  split at h
  · rename_i a n c
    rw [sel_eq] at h
    split at h
    · cases h
    · rename_i hc
      have hc' : c < OPEN := by
        have : ¬ OPEN ≤ c := by simpa using hc
        omega
      cases h
      refine ⟨?_, by simp only [VR]⟩
      cases a with
      | none => have := hv.slice_none; subst this; exact run _ _ _
      | some a =>
        simp only [VR] at hv
        have hv := hv.2
        rw [if_pos hc'] at hv
        obtain ⟨X, y, _, rfl⟩ := hv
        exact run _ _ _
  · cases h
theorem nilc_ok {m : Mp} {v u r : Value} (hv : VR m v u) (h : evNilc v = some r) : (∃ a, u = .pointer (some a)) ∨ ∃ f p c, u = .func (.func f) p c := by
  unfold evNilc at h
  split at h
  · obtain ⟨a, rfl⟩ := hv.ptr_some; exact .inl ⟨a, rfl⟩
  · simp only [VR] at hv
    obtain ⟨p', c', rfl, _⟩ := hv
    exact .inr ⟨_, _, _, rfl⟩
  · cases h
end Go.Proofs.YtcpebhdbpkhhiaaGreat.Ev

/- What each operation does: slices that are made, cleared, copied, filled. No program here. -/
namespace Go.Proofs.YtcpebhdbpkhhiaaGreat.Ev
open Go Go.RowKit

theorem repeatN_length (z : List Value) : ∀ c, (repeatN z c).length = c * z.length
  | 0 => by simp [repeatN]
  | c + 1 => by simp [repeatN, repeatN_length z c, Nat.add_mul]; omega
theorem repeatN_get (z : List Value) : ∀ (c j : Nat), j < c * z.length → (repeatN z c)[j]? = z[j % z.length]?
  | 0, j, h => by simp at h
  | c + 1, j, h => by
    simp only [repeatN]
    by_cases hj : j < z.length
    · rw [List.getElem?_append_left hj, Nat.mod_eq_of_lt hj]
    · have h1 : z.length ≤ j := by omega
      have h2 : j - z.length < c * z.length := by rw [Nat.add_mul] at h; omega
      rw [List.getElem?_append_right h1, repeatN_get z c _ h2, Nat.mod_eq_sub_mod h1]
theorem repeatN_flat {z : List Value} (h : flatL z = true) : ∀ c, flatL (repeatN z c) = true := by
  have app : ∀ (a b : List Value), flatL a = true → flatL b = true → flatL (a ++ b) = true := by
    intro a
    induction a with
    | nil => intro b _ hb; exact hb
    | cons x a ih =>
      intro b ha hb
      simp only [List.cons_append, flatL, Bool.and_eq_true] at ha ⊢
      exact ⟨ha.1, ih b ha.2 hb⟩
  intro c
  induction c with
  | zero => rfl
  | succ c ih => exact app z _ h ih
theorem repeatN_one {z : List Value} (h : ∀ v ∈ z, oneCell v = true) (c : Nat) : ∀ v ∈ repeatN z c, oneCell v = true := by
  induction c with
  | zero => intro v hv; cases hv
  | succ c ih =>
    intro v hv
    rcases List.mem_append.1 hv with hv | hv
    · exact h v hv
    · exact ih v hv
/-- Zero cells, as the world makes them. -/
theorem zeros_eq (z : Array Value) (c : Nat) : ((Array.range (c * z.size)).map (fun j => z[j % z.size]!)) = ⟨repeatN z.toList c⟩ := by
  apply Array.ext'
  simp only [Array.toList_map, Array.toList_range]
  apply List.ext_getElem?
  intro j
  have hl : z.toList.length = z.size := rfl
  by_cases hj : j < c * z.size
  · rw [repeatN_get z.toList c j (by rw [hl]; exact hj)]
    have h0 : 0 < z.size := by rcases Nat.eq_zero_or_pos z.size with h | h; · rw [h] at hj; simp at hj
                               · exact h
    have hm : j % z.size < z.size := Nat.mod_lt _ h0
    simp [hj, hm]
  · rw [List.getElem?_eq_none (by simp; omega), List.getElem?_eq_none (by rw [repeatN_length, hl]; omega)]

theorem addsLeaf {l : List Value} {k : BT Value → Bool} (h : addsK .leaf 0 l k = true) : ∃ c, k c = true ∧ ∀ j v, c.get j = some v → l[j]? = some v := by
  obtain ⟨c, hk, _, hc⟩ := addsK_inv h
  refine ⟨c, hk, fun j v hj => ?_⟩
  rw [hc] at hj
  by_cases h0 : 0 ≤ j ∧ j < 0 + l.length
  · rw [if_pos h0] at hj; simpa using hj
  · rw [if_neg h0] at hj; simp [BT.get] at hj

theorem mks_ok {P : Program} {K : Kp} {B : Nat} {m : Mp} {s : St} {w : World} {t e : Nat} {i : TypeInfo} {z : Array Value} {a a' b b' : Value} {k : Value → St → Bool} (ht : P.underlying t = some (.slice e)) (hi : P.info? e = some i) (hz : zeroOf P e = some z) (hs : z.size = i.size)
    (E : Emb P K B m s w) (ha : VR m a a') (hb : VR m b b') (hk : mksK s e i.size i.bytes z.toList a b k = true) :
    ∃ r s', k r s' = true ∧ ∃ m' w' r', (Instr.makeSlice t a' b').run P w = .ok r' w' ∧ m.le m' ∧ Emb P K B m' s' w' ∧ Below B w w' ∧ VR m' r r' := by
  obtain ⟨i', v, hi2, hv, hvz, hf, h1⟩ := zeroOf_inv hz
  rw [hi] at hi2; cases hi2
  unfold mksK at hk
  obtain ⟨ka, na, rfl, hk⟩ := onInt0 hk
  obtain ⟨kb, nb, rfl, hk1⟩ := onInt0 hk
  clear hk
  obtain ⟨h2, hk2⟩ := ifB_true hk1
  clear hk1
  obtain ⟨h3, hk3⟩ := ifB_true hk2
  clear hk2
  have := kindEq_eq h2; subst this
  have := kindEq_eq h3; subst this
  obtain ⟨_, l, hl, hk4⟩ := onNat_inv hk3
  clear hk3
  cases hl
  obtain ⟨_, c, hc, hk5⟩ := onNat_inv hk4
  clear hk4
  cases hc
  obtain ⟨h4, hk6⟩ := ifB_true hk5
  clear hk5
  obtain ⟨h5, hk7⟩ := ifB_true hk6
  clear hk6
  obtain ⟨h6, hk8⟩ := ifB_true hk7
  clear hk7
  have h4' : l ≤ c := by simpa using h4
  have h5' : c ≤ 1048576 := by simpa using h5
  have h6' : i.bytes * c ≤ 1073741824 := by simpa using h6
  obtain ⟨tr, hk9, htr⟩ := addsLeaf hk8
  have hk10 := nOf_inv hk9
  rw [forceN_eq] at hk10
  have hr : OR P (m.put s.n w.heap.size 0) s.n (.cells (Nat.mul c i.size) tr e false) (.cells ⟨repeatN z.toList c⟩ e (0, 0)) :=
    row_new htr (LR.flat _ (repeatN_flat hf c)) (repeatN_one h1 c) (by rw [repeatN_length]; show c * i.size = c * z.size; rw [hs])
  obtain ⟨s', hk, hE, hB, hle, _⟩ := new_ok E 0 hr hk10
  have ea := ha.int_inv; subst ea
  have eb := hb.int_inv; subst eb
  refine ⟨_, s', hk, _, _, .slice (some ⟨w.heap.size, 0, none⟩) l c, ?_, hle, hE, hB, ?_⟩
  · have w1 : IntKind.i64.wrap (Int.ofNat l) = l := by rw [← wrapq_eq]; simp only [wrapq]; have : fits (Int.ofNat l) = true := by simp only [fits, Nat.blt_eq]; omega
                                                       rw [this]; rfl
    have w2 : IntKind.i64.wrap (Int.ofNat c) = c := by rw [← wrapq_eq]; simp only [wrapq]; have : fits (Int.ofNat c) = true := by simp only [fits, Nat.blt_eq]; omega
                                                       rw [this]; rfl
    have hz2 : (if c * i.size = 0 then pure #[] else do pure (← zeroValue e).cells : Sem (Array Value)).run P w = .ok (if c * i.size = 0 then #[] else z) w := by
      by_cases h0 : c * i.size = 0
      · rw [if_pos h0, if_pos h0]; rfl
      · rw [if_neg h0, if_neg h0, Sem.run_bind, run_zero hi hv]
        show Result.ok v.cells w = _
        rw [hvz]
    have hcell : (Array.range (c * i.size)).map (fun j => (if c * i.size = 0 then #[] else z)[j % (if c * i.size = 0 then #[] else z).size]!) = ⟨repeatN z.toList c⟩ := by
      by_cases h0 : c * i.size = 0
      · rw [h0]
        apply Array.ext'
        have : (repeatN z.toList c).length = 0 := by rw [repeatN_length]; show c * z.size = 0; rw [hs]; exact h0
        have e0 := List.eq_nil_of_length_eq_zero this
        simp only [e0, Array.toList_map, Array.toList_range, List.range_zero, List.map_nil]
      · rw [if_neg h0, ← hs]; exact zeros_eq z c
    have hb1 : ¬ (i.bytes : Int) * (c : Int) > 2 ^ 48 := by
      rw [← Int.natCast_mul]
      omega
    have hc0 : ¬ ((c : Int) < 0) := by omega
    have hl0 : ¬ ((l : Int) < 0) := by omega
    have hlc : ¬ ((l : Int) > (c : Int)) := by omega
    unfold Instr.makeSlice
    simp only [Sem.run_bind, run_und ht, Result.andThen_ok, asInt, asIntOf, Sem.run_pure, run_typeInfo hi, w1, w2]
    rw [if_neg (by simp only [hc0, hl0, hlc, hb1, decide_false, Bool.or_self, Bool.false_eq_true, not_false_eq_true])]
    simp only [Sem.run_bind, run_askRoom, run_sizeOf hi, Result.andThen_ok, Int.toNat_natCast, Sem.run_ite]
    by_cases h0 : c * i.size = 0
    · rw [if_pos h0]
      rw [if_pos h0] at hcell
      simp only [Sem.run_bind, Sem.run_pure, Result.andThen_ok, newRow, run_newObj]
      rw [hcell]; rfl
    · rw [if_neg h0]
      rw [if_neg h0] at hcell
      simp only [Sem.run_bind, Sem.run_pure, Result.andThen_ok, newRow, run_newObj, run_zero hi hv, hvz]
      rw [hcell]; rfl
  · simp only [VR]
    refine ⟨trivial, ?_⟩
    rw [if_pos (by unfold OPEN; omega)]
    exact ⟨_, _, Mp.put_same _ _ _ _, rfl⟩

theorem clear_ok {P : Program} {K : Kp} {B : Nat} {m : Mp} {s : St} {w : World} {ts : Array Nat} {t0 e ty : Nat} {i : TypeInfo} {z : Array Value} {x u : Value} {k : Value → St → Bool} (h0 : ts[0]? = some t0) (ht : P.underlying t0 = some (.slice e)) (hi : P.info? e = some i) (hz : zeroOf P e = some z) (hs : z.size = i.size)
    (E : Emb P K B m s w) (hx : VR m x u) (hk : clearK s i.size z.toList x k = true) :
    ∃ s', k (.tuple #[]) s' = true ∧ ∃ w', (Builtin.clear_ ts ty #[u]).run P w = .ok (.tuple #[]) w' ∧ Emb P K B m s' w' ∧ Below B w w' := by
  obtain ⟨i', v, hi2, hv, hvz, hf, h1⟩ := zeroOf_inv hz
  rw [hi] at hi2; cases hi2
  unfold clearK at hk
  have zero : ∀ a c, (Builtin.clear_ ts ty #[.slice a 0 c]).run P w = .ok (.tuple #[]) w := by
    intro a c
    cases a <;> simp [Builtin.clear_, h0, run_und ht]
  rcases onSlice_inv hk with ⟨n, c, rfl, hk1⟩ | ⟨b, off, n, c, rfl, hk1⟩
  · have := hx.slice_none; subst this
    exact ⟨s, hk1, w, by simp [Builtin.clear_, h0, run_und ht], E, Below.refl _ _⟩
  · rcases ifB_or hk1 with ⟨hn, hk2⟩ | ⟨hn, hk2⟩
    · have hn' : n = 0 := by simpa using hn
      subst hn'
      refine ⟨s, hk2, w, ?_, E, Below.refl _ _⟩
      rcases hx.slice_inv with ⟨_, X, y, _, rfl⟩ | ⟨_, _, X, y, _, rfl⟩ | ⟨_, _, a, c', rfl⟩ <;> exact zero _ _
    · have hn' : n ≠ 0 := by intro h; subst h; simp at hn
      obtain ⟨X, y, c', hm, rfl⟩ := hx.slice_pos hn'
      obtain ⟨N, tr, e', op, hg, hk3⟩ := rowK_inv hk2
      obtain ⟨hle, hk4⟩ := ifB_true hk3
      have hle' : off + n * i.size ≤ N := by simpa using hle
      obtain ⟨tr', hk5, _, htr⟩ := putsK_inv hk4
      obtain ⟨h', hk6, _, hh⟩ := storeK_inv hk5
      have hl : (repeatN z.toList n).length = n * i.size := by rw [repeatN_length]; show n * z.size = _; rw [hs]
      obtain ⟨w', hr, hE, hB⟩ := rowSt E (off := off) (l := repeatN z.toList n) (l' := repeatN z.toList n) hm hg (LR.flat _ (repeatN_flat hf n)) (repeatN_one h1 n) (by rw [hl]; exact hle') htr hh
      refine ⟨_, hk6, w', ?_, hE, hB⟩
      obtain ⟨n', rfl⟩ : ∃ n', n = n' + 1 := ⟨n - 1, by omega⟩
      have hzc : Builtin.zeroCells z (n' + 1) = ⟨repeatN z.toList (n' + 1)⟩ := zeros_eq z (n' + 1)
      simp [Builtin.clear_, h0, run_und ht, run_zero hi hv, hvz, hzc, hr]

theorem run_lenOf {P : Program} (a : Option Addr) (n c : Nat) (w : World) : (Builtin.lenOf (.slice a n c)).run P w = .ok n w := rfl
/-- The first cells of a slice. -/
theorem first_ok {P : Program} {K : Kp} {B : Nat} {m : Mp} {s : St} {w : World} {b off n c j sz : Nat} {u : Value} {k : List Value → Bool} (E : Emb P K B m s w) (hv : VR m (.slice (some ⟨b, off, none⟩) n c) u) (hj : j ≤ n)
    (hk : seeK s b (fun tr => segK tr off (j * sz) k) (fun g => romSegK g off (j * sz) k) = true) : ∃ f l l', Sees s b f ∧ k l = true ∧ l.length = j * sz ∧ (∀ i, i < j * sz → f (off + i) = l[i]?) ∧ LR m l l' ∧ (Builtin.firstCells sz j u).run P w = .ok ⟨l'⟩ w := by
  obtain ⟨f, l, hf, hk, hl, hc⟩ := seeSeg_inv hk
  by_cases hn : n = 0
  · subst hn
    have hj0 : j = 0 := by omega
    subst hj0
    have : l = [] := List.eq_nil_of_length_eq_zero (by simpa using hl)
    subst this
    refine ⟨f, [], [], hf, hk, by simp, fun i hi => by simp at hi, by simp only [LR], ?_⟩
    rcases hv.slice_inv with ⟨_, X, y, _, rfl⟩ | ⟨_, _, X, y, _, rfl⟩ | ⟨_, _, a, c', rfl⟩ <;> simp [Builtin.firstCells, loadCells, loadCellsFrom]
  · obtain ⟨X, y, c', hm, rfl⟩ := hv.slice_pos hn
    obtain ⟨cs, e, fr, ho, hcs1⟩ := E.sees hm hf
    have hcs : ∀ j v, f j = some v → ∃ v', cs[j]? = some v' ∧ VR m v v' := fun j v hj => (hcs1 j v hj).2
    obtain ⟨l', h4, h5, h6⟩ := seg_rel (off := off) hcs (by rw [hl]; exact hc)
    refine ⟨f, l, l', hf, hk, hl, hc, h5, ?_⟩
    have := run_loadCells_list (P := P) w ⟨X, off, none⟩ l' (fun i v hi => by rw [add_none, cell_of ho]; exact h6 i v hi)
    rw [h4, hl] at this
    simpa [Builtin.firstCells] using this

/-- What was cut out of a row is single cells. -/
theorem seg_one {P : Program} {K : Kp} {B : Nat} {m : Mp} {s : St} {w : World} (E : Emb P K B m s w) {b X y off : Nat} {f : Nat → Option Value} {l : List Value} (hm : m b = some (X, y)) (hg : Sees s b f) (hc : ∀ j, j < l.length → f (off + j) = l[j]?) :
    ∀ v ∈ l, oneCell v = true := by
  obtain ⟨cs, _, _, _, hon⟩ := E.sees hm hg
  intro v hv
  obtain ⟨j, hj, rfl⟩ := List.getElem_of_mem hv
  exact (hon (off + j) _ (by rw [hc j hj]; exact List.getElem?_eq_getElem hj)).1

theorem copy_ok {P : Program} {K : Kp} {B : Nat} {m : Mp} {s : St} {w : World} {ts : Array Nat} {t0 e ty : Nat} {i : TypeInfo} {x y u v : Value} {k : Value → St → Bool} (h0 : ts[0]? = some t0) (ht : P.underlying t0 = some (.slice e)) (hi : P.info? e = some i)
    (E : Emb P K B m s w) (hx : VR m x u) (hy : VR m y v) (hk : copyK s i.size x y k = true) :
    ∃ r s', k r s' = true ∧ ∃ w', (Builtin.copy_ ts ty #[u, v]).run P w = .ok r w' ∧ Emb P K B m s' w' ∧ Below B w w' ∧ VR m r r := by
  unfold copyK at hk
  have z : ∀ (a a' : Option Addr) (n n' c c' : Nat), (n = 0 ∨ n' = 0) → (Builtin.copy_ ts ty #[.slice a n c, .slice a' n' c']).run P w = .ok (.int .i64 0) w := by
    intro a a' n n' c c' h
    have hm : Nat.min n' n = 0 := by rcases h with rfl | rfl <;> simp
    have hf : (Builtin.firstCells i.size 0 (.slice a' n' c')).run P w = .ok #[] w := by cases a' <;> simp [Builtin.firstCells, loadCells, loadCellsFrom]
    cases a <;> simp [Builtin.copy_, h0, run_und ht, Builtin.lenOf, hm, run_sizeOf hi, hf, goInt, storeCells]
  rcases onSlice_inv hk with ⟨n, c, rfl, hk1⟩ | ⟨b, off, n, c, rfl, hk1⟩
  · obtain ⟨hn, hk2⟩ := ifB_true hk1
    have hn' : n = 0 := by simpa using hn
    subst hn'
    have := hx.slice_none; subst this
    rcases onSlice_inv hk2 with ⟨n2, c2, rfl, hk3⟩ | ⟨b, off, n2, c2, rfl, hk3⟩
    · have := hy.slice_none; subst this
      exact ⟨_, s, hk3, w, z _ _ _ _ _ _ (.inl rfl), E, Below.refl _ _, by simp only [VR]⟩
    · obtain ⟨a', n', c', rfl⟩ := hy.slice_some
      exact ⟨_, s, hk3, w, z _ _ _ _ _ _ (.inl rfl), E, Below.refl _ _, by simp only [VR]⟩
  · rcases onSlice_inv hk1 with ⟨n2, c2, rfl, hk2⟩ | ⟨b', off', n2, c2, rfl, hk2⟩
    · obtain ⟨hn, hk3⟩ := ifB_true hk2
      have hn' : n2 = 0 := by simpa using hn
      subst hn'
      have := hy.slice_none; subst this
      obtain ⟨a', n', c', rfl⟩ := hx.slice_some
      exact ⟨_, s, hk3, w, z _ _ _ _ _ _ (.inr rfl), E, Below.refl _ _, by simp only [VR]⟩
    · obtain ⟨j, hj, hk3⟩ : ∃ j, j = Nat.min n2 n ∧ ifB (Nat.beq j 0) (k (.int .i64 (.ofNat 0)) s) (rowK s b (fun m c e op => copyToK (fun h => seeK s b' (fun c' => segK c' off' (Nat.mul j i.size) h) (fun g => romSegK g off' (Nat.mul j i.size) h)) (fun l =>
          ifB (Nat.ble (Nat.add off (Nat.mul j i.size)) m) (putsK c off l (fun c => storeK s b (.cells m c e op) (k (.int .i64 (.ofNat j))))) false))) = true := by
        rcases ifB_or (show ifB (Nat.ble n2 n) _ _ = true from hk2) with ⟨h5, h6⟩ | ⟨h5, h6⟩
        · have : n2 ≤ n := by simpa using h5
          exact ⟨n2, (Nat.min_eq_left this).symm, h6⟩
        · have : ¬ n2 ≤ n := by intro h7; rw [← Nat.ble_eq] at h7; rw [h7] at h5; cases h5
          exact ⟨n, (Nat.min_eq_right (by omega)).symm, h6⟩
      rcases ifB_or hk3 with ⟨hz, hk4⟩ | ⟨hz, hk4⟩
      · have hz' : j = 0 := by simpa using hz
        have hzero : n = 0 ∨ n2 = 0 := by
          rw [hz'] at hj
          rcases Nat.le_total n2 n with h5 | h5
          · right; have : Nat.min n2 n = n2 := Nat.min_eq_left h5; omega
          · left; have : Nat.min n2 n = n := Nat.min_eq_right h5; omega
        have sl : ∀ {b off n c : Nat} {u : Value}, VR m (.slice (some ⟨b, off, none⟩) n c) u → ∃ a c', u = .slice (some a) n c' := by
          intro b off n c u h
          rcases h.slice_inv with ⟨_, X, y, _, rfl⟩ | ⟨_, _, X, y, _, rfl⟩ | ⟨_, rfl, a, c', rfl⟩
          · exact ⟨_, _, rfl⟩
          · exact ⟨_, _, rfl⟩
          · exact ⟨_, _, rfl⟩
        obtain ⟨a, ca, rfl⟩ := sl hx
        obtain ⟨a', ca', rfl⟩ := sl hy
        exact ⟨_, s, hk4, w, z _ _ _ _ _ _ hzero, E, Below.refl _ _, by simp only [VR]⟩
      · have hz' : j ≠ 0 := by intro h; subst h; simp at hz
        have hjn : j ≤ n := by rw [hj]; exact Nat.min_le_right _ _
        have hjn2 : j ≤ n2 := by rw [hj]; exact Nat.min_le_left _ _
        obtain ⟨N, tr, e1, op, hg, hk5⟩ := rowK_inv hk4
        obtain ⟨X', y', c', hm', _⟩ := hy.slice_pos (by omega)
        obtain ⟨f, l, l', hg', hk8, hll, hc, hlr, hrun⟩ := first_ok E hy hjn2 hk5
        obtain ⟨hle, hk9⟩ := ifB_true hk8
        have hle' : off + j * i.size ≤ N := by simpa using hle
        obtain ⟨tr2, hk10, _, htr⟩ := putsK_inv hk9
        obtain ⟨h', hk11, _, hh⟩ := storeK_inv hk10
        obtain ⟨X, y, cx, hm, rfl⟩ := hx.slice_pos (by omega)
        obtain ⟨w', hr, hE, hB⟩ := rowSt E (off := off) (l := l) (l' := l') hm hg hlr (seg_one E hm' hg' (by rw [hll]; exact hc)) (by rw [hll]; exact hle') htr hh
        refine ⟨_, _, hk11, w', ?_, hE, hB, by simp only [VR]⟩
        obtain ⟨a', n', ca', rfl⟩ := hy.slice_some
        have hlen : (Builtin.lenOf (.slice (some a') n' ca')).run P w = .ok n2 w := by
          rcases hy.slice_inv with ⟨_, X, y, _, e⟩ | ⟨_, _, X, y, _, e⟩ | ⟨_, h, a, c', e⟩
          · cases e; rfl
          · cases e; rfl
          · omega
        simp [Builtin.copy_, h0, run_und ht, hlen, ← hj, run_sizeOf hi, hrun, hr, goInt]
end Go.Proofs.YtcpebhdbpkhhiaaGreat.Ev
