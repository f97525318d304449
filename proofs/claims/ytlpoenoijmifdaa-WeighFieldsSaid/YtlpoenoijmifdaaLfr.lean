import Derived.Test.YtlpoenoijmifdaaSan
import Derived.Deep.RegionHeld3
set_option linter.unusedVariables false
set_option linter.unusedSimpArgs false
namespace Go.Proofs.Ytlpoenoijmifdaa
open Go.RowKit

/-- A fraction lies in the box b. -/
def Bx (w : World) (b : Nat) (p q : Int) : Prop := w.cell? ⟨b, 0, none⟩ = some (.int .i64 p) ∧ w.cell? ⟨b, 1, none⟩ = some (.int .i64 q) ∧ b < w.heap.size
theorem Bx.below {w w' : World} {b : Nat} {p q : Int} (h : Bx w b p q) (hb : Below w.heap.size w w') : Bx w' b p q :=
  ⟨(hb.cell (p := ⟨b, 0, none⟩) h.2.2).trans h.1, (hb.cell (p := ⟨b, 1, none⟩) h.2.2).trans h.2.1, Nat.lt_of_lt_of_le h.2.2 hb.size⟩
theorem Bx.new (w : World) (p q : Int) (t : TypeId) : Bx (w.alloc (.cells #[.int .i64 p, .int .i64 q] t)) w.heap.size p q := ⟨by simp, by simp, by simp⟩

set_option maxRecDepth 100000 in
set_option maxHeartbeats 4000000 in
theorem lawFracs_w (an ad bn bd n0 n1 : Int) (w : World) (h1 : FB an) (h2 : FB ad) (h3 : FB bn) (h4 : FB bd) (h5 : FB n0) (h6 : FB n1) :
    Calls Try.prog 3 #[.agg #[.int .i64 an, .int .i64 ad], .agg #[.int .i64 bn, .int .i64 bd], .agg #[.int .i64 n0, .int .i64 n1]] w fun e w' => e = .returned (.bool true) ∧ Below w.heap.size w w' := by
  obtain ⟨p1, q1, r1, m1⟩ : ∃ p q r, Hid (mk n0 n1 = (p, q, r)) := ⟨_, _, _, rfl⟩
  obtain ⟨p2, q2, r2, m2⟩ : ∃ p q r, Hid (opF an ad bn bd (an * bd + bn * ad) (ad * bd) = (p, q, r)) := ⟨_, _, _, rfl⟩
  obtain ⟨p3, q3, r3, m3⟩ : ∃ p q r, Hid (opF an ad bn bd (an * bd - bn * ad) (ad * bd) = (p, q, r)) := ⟨_, _, _, rfl⟩
  obtain ⟨p4, q4, r4, m4⟩ : ∃ p q r, Hid (opF an ad bn bd (an * bn) (ad * bd) = (p, q, r)) := ⟨_, _, _, rfl⟩
  obtain ⟨p5, q5, r5, m5⟩ : ∃ p q r, Hid (opF an ad bn bd (an * bd) (ad * bn) = (p, q, r)) := ⟨_, _, _, rfl⟩
  obtain ⟨v6, hv6⟩ : ∃ v, (if chk an ad = 0 then flo an ad else 0) = v := ⟨_, rfl⟩
  obtain ⟨v7, hv7⟩ : ∃ v, (if chk an ad = 0 then -flo (-an) ad else 0) = v := ⟨_, rfl⟩
  obtain ⟨v8, hv8⟩ : ∃ v, (if chk an ad = 0 then flo (2 * an + ad) (2 * ad) else 0) = v := ⟨_, rfl⟩
  obtain ⟨c, hc⟩ : ∃ v, chk an ad = v := ⟨_, rfl⟩
  obtain ⟨cm, hcm⟩ : ∃ v, cmpF an ad bn bd = v := ⟨_, rfl⟩
  have F1 := fun W => floor_w an ad W h1 h2
  have F2 := fun W => rfloor_w an ad W h1 h2
  have F3 := fun W => ceil_w an ad W h1 h2
  have F4 := fun W => rceil_w an ad W h1 h2
  have F5 := fun W => round_w an ad W h1 h2
  have F6 := fun W => rround_w an ad W h1 h2
  have F7 := fun W => check_w an ad W h1 h2
  have F8 := fun W => rcheck_w an ad W h1 h2
  have F9 := fun W => cmp_w an ad bn bd W h1 h2 h3 h4
  have F10 := fun W => rcmp_w an ad bn bd W h1 h2 h3 h4
  rw [hv6, hc] at F1 F2
  rw [hv7, hc] at F3 F4
  rw [hv8, hc] at F5 F6
  rw [hc] at F7 F8
  rw [hcm] at F9 F10
  have G1 := hide F1
  have G2 := hide F2
  have G3 := hide F3
  have G4 := hide F4
  have G5 := hide F5
  have G6 := hide F6
  have G7 := hide F7
  have G8 := hide F8
  have G9 := hide F9
  have G10 := hide F10
  clear F1 F2 F3 F4 F5 F6 F7 F8 F9 F10 hv6 hv7 hv8 hc hcm
  go_enter Try.func3, Try.ntmps3
  obtain ⟨A, hA⟩ : ∃ x, Obj.cells #[.int .i64 an, .int .i64 ad] 23 = x := ⟨_, rfl⟩
  obtain ⟨B, hB⟩ : ∃ x, Obj.cells #[.int .i64 bn, .int .i64 bd] 23 = x := ⟨_, rfl⟩
  obtain ⟨C, hC⟩ : ∃ x, Obj.cells #[.int .i64 n0, .int .i64 n1] 24 = x := ⟨_, rfl⟩
  have y1 : Bx (((w.alloc A).alloc B).alloc C) w.heap.size an ad := by subst hA; exact ((Bx.new w an ad _).below ((Below.refl _ _).alloc (Nat.le_refl _) _)).below ((Below.refl _ _).alloc (Nat.le_refl _) _)
  have y2 : Bx (((w.alloc A).alloc B).alloc C) (w.heap.size + 1) bn bd := by
    subst hB; have := (Bx.new (w.alloc A) bn bd 23).below (w' := ((w.alloc A).alloc (.cells #[.int .i64 bn, .int .i64 bd] 23)).alloc C) ((Below.refl _ _).alloc (Nat.le_refl _) _); rwa [World.size_alloc] at this
  have y3 : Bx (((w.alloc A).alloc B).alloc C) (w.heap.size + 1 + 1) n0 n1 := by
    subst hC; have := Bx.new ((w.alloc A).alloc B) n0 n1 24; rwa [World.size_alloc, World.size_alloc] at this
  have k0 : Below w.heap.size w (((w.alloc A).alloc B).alloc C) := (((Below.refl _ _).alloc (Nat.le_refl _) A).alloc (by simp) B).alloc (by simp; omega) C
  subst hA; subst hB; subst hC
  go_wp2_with fail
  refine (make_c m1 _ (h5) (h6)).mono ?_
  rintro e w1 ⟨rfl, hb1⟩
  have k1 : Below w.heap.size w w1 := back k0 hb1
  have z1 := y1.below hb1; clear y1
  have z2 := y2.below hb1; clear y2
  have z3 := y3.below hb1; clear y3
  clear hb1
  have Z1 := hide z1; have Z2 := hide z2; have Z3 := hide z3
  obtain ⟨a0, a1, s1⟩ := z1; obtain ⟨b0, b1, s2⟩ := z2; obtain ⟨e0, e1, s3⟩ := z3
  go_wp2_with fail
  refine (rmake_c m1 _ (h5) (h6)).mono ?_
  rintro e w2 ⟨rfl, hb2⟩
  have k2 : Below w.heap.size w w2 := back (k1.alloc k1.size _) hb2
  have z1 := (Z1.out.below ((Below.refl _ _).alloc (Nat.le_refl _) _)).below hb2; clear Z1
  have z2 := (Z2.out.below ((Below.refl _ _).alloc (Nat.le_refl _) _)).below hb2; clear Z2
  have z3 := (Z3.out.below ((Below.refl _ _).alloc (Nat.le_refl _) _)).below hb2; clear Z3
  have x1_2 := hide ((Bx.new w1 p1 q1 23).below hb2)
  clear hb2
  have Z1 := hide z1; have Z2 := hide z2; have Z3 := hide z3
  clear a0 a1 b0 b1 e0 e1 s1 s2 s3
  obtain ⟨a0, a1, s1⟩ := z1; obtain ⟨b0, b1, s2⟩ := z2; obtain ⟨e0, e1, s3⟩ := z3
  go_wp2_with fail
  refine (add_c m2 _ h1 h2 h3 h4).mono ?_
  rintro e w3 ⟨rfl, hb3⟩
  have k3 : Below w.heap.size w w3 := back (k2.alloc k2.size _) hb3
  have z1 := (Z1.out.below ((Below.refl _ _).alloc (Nat.le_refl _) _)).below hb3; clear Z1
  have z2 := (Z2.out.below ((Below.refl _ _).alloc (Nat.le_refl _) _)).below hb3; clear Z2
  have z3 := (Z3.out.below ((Below.refl _ _).alloc (Nat.le_refl _) _)).below hb3; clear Z3
  have x2_3 := hide ((Bx.new w2 p1 q1 23).below hb3)
  have x1_3 := hide ((x1_2.out.below ((Below.refl _ _).alloc (Nat.le_refl _) _)).below hb3); clear x1_2
  clear hb3
  have Z1 := hide z1; have Z2 := hide z2; have Z3 := hide z3
  clear a0 a1 b0 b1 e0 e1 s1 s2 s3
  obtain ⟨a0, a1, s1⟩ := z1; obtain ⟨b0, b1, s2⟩ := z2; obtain ⟨e0, e1, s3⟩ := z3
  go_wp2_with fail
  refine (radd_c m2 _ h1 h2 h3 h4).mono ?_
  rintro e w4 ⟨rfl, hb4⟩
  have k4 : Below w.heap.size w w4 := back (k3.alloc k3.size _) hb4
  have z1 := (Z1.out.below ((Below.refl _ _).alloc (Nat.le_refl _) _)).below hb4; clear Z1
  have z2 := (Z2.out.below ((Below.refl _ _).alloc (Nat.le_refl _) _)).below hb4; clear Z2
  have z3 := (Z3.out.below ((Below.refl _ _).alloc (Nat.le_refl _) _)).below hb4; clear Z3
  have x3_4 := hide ((Bx.new w3 p2 q2 23).below hb4)
  have x1_4 := hide ((x1_3.out.below ((Below.refl _ _).alloc (Nat.le_refl _) _)).below hb4); clear x1_3
  have x2_4 := hide ((x2_3.out.below ((Below.refl _ _).alloc (Nat.le_refl _) _)).below hb4); clear x2_3
  clear hb4
  have Z1 := hide z1; have Z2 := hide z2; have Z3 := hide z3
  clear a0 a1 b0 b1 e0 e1 s1 s2 s3
  obtain ⟨a0, a1, s1⟩ := z1; obtain ⟨b0, b1, s2⟩ := z2; obtain ⟨e0, e1, s3⟩ := z3
  go_wp2_with fail
  refine (sub_c m3 _ h1 h2 h3 h4).mono ?_
  rintro e w5 ⟨rfl, hb5⟩
  have k5 : Below w.heap.size w w5 := back (k4.alloc k4.size _) hb5
  have z1 := (Z1.out.below ((Below.refl _ _).alloc (Nat.le_refl _) _)).below hb5; clear Z1
  have z2 := (Z2.out.below ((Below.refl _ _).alloc (Nat.le_refl _) _)).below hb5; clear Z2
  have z3 := (Z3.out.below ((Below.refl _ _).alloc (Nat.le_refl _) _)).below hb5; clear Z3
  have x4_5 := hide ((Bx.new w4 p2 q2 23).below hb5)
  have x1_5 := hide ((x1_4.out.below ((Below.refl _ _).alloc (Nat.le_refl _) _)).below hb5); clear x1_4
  have x2_5 := hide ((x2_4.out.below ((Below.refl _ _).alloc (Nat.le_refl _) _)).below hb5); clear x2_4
  have x3_5 := hide ((x3_4.out.below ((Below.refl _ _).alloc (Nat.le_refl _) _)).below hb5); clear x3_4
  clear hb5
  have Z1 := hide z1; have Z2 := hide z2; have Z3 := hide z3
  clear a0 a1 b0 b1 e0 e1 s1 s2 s3
  obtain ⟨a0, a1, s1⟩ := z1; obtain ⟨b0, b1, s2⟩ := z2; obtain ⟨e0, e1, s3⟩ := z3
  go_wp2_with fail
  refine (rsub_c m3 _ h1 h2 h3 h4).mono ?_
  rintro e w6 ⟨rfl, hb6⟩
  have k6 : Below w.heap.size w w6 := back (k5.alloc k5.size _) hb6
  have z1 := (Z1.out.below ((Below.refl _ _).alloc (Nat.le_refl _) _)).below hb6; clear Z1
  have z2 := (Z2.out.below ((Below.refl _ _).alloc (Nat.le_refl _) _)).below hb6; clear Z2
  have z3 := (Z3.out.below ((Below.refl _ _).alloc (Nat.le_refl _) _)).below hb6; clear Z3
  have x5_6 := hide ((Bx.new w5 p3 q3 23).below hb6)
  have x1_6 := hide ((x1_5.out.below ((Below.refl _ _).alloc (Nat.le_refl _) _)).below hb6); clear x1_5
  have x2_6 := hide ((x2_5.out.below ((Below.refl _ _).alloc (Nat.le_refl _) _)).below hb6); clear x2_5
  have x3_6 := hide ((x3_5.out.below ((Below.refl _ _).alloc (Nat.le_refl _) _)).below hb6); clear x3_5
  have x4_6 := hide ((x4_5.out.below ((Below.refl _ _).alloc (Nat.le_refl _) _)).below hb6); clear x4_5
  clear hb6
  have Z1 := hide z1; have Z2 := hide z2; have Z3 := hide z3
  clear a0 a1 b0 b1 e0 e1 s1 s2 s3
  obtain ⟨a0, a1, s1⟩ := z1; obtain ⟨b0, b1, s2⟩ := z2; obtain ⟨e0, e1, s3⟩ := z3
  go_wp2_with fail
  refine (mul_c m4 _ h1 h2 h3 h4).mono ?_
  rintro e w7 ⟨rfl, hb7⟩
  have k7 : Below w.heap.size w w7 := back (k6.alloc k6.size _) hb7
  have z1 := (Z1.out.below ((Below.refl _ _).alloc (Nat.le_refl _) _)).below hb7; clear Z1
  have z2 := (Z2.out.below ((Below.refl _ _).alloc (Nat.le_refl _) _)).below hb7; clear Z2
  have z3 := (Z3.out.below ((Below.refl _ _).alloc (Nat.le_refl _) _)).below hb7; clear Z3
  have x6_7 := hide ((Bx.new w6 p3 q3 23).below hb7)
  have x1_7 := hide ((x1_6.out.below ((Below.refl _ _).alloc (Nat.le_refl _) _)).below hb7); clear x1_6
  have x2_7 := hide ((x2_6.out.below ((Below.refl _ _).alloc (Nat.le_refl _) _)).below hb7); clear x2_6
  have x3_7 := hide ((x3_6.out.below ((Below.refl _ _).alloc (Nat.le_refl _) _)).below hb7); clear x3_6
  have x4_7 := hide ((x4_6.out.below ((Below.refl _ _).alloc (Nat.le_refl _) _)).below hb7); clear x4_6
  have x5_7 := hide ((x5_6.out.below ((Below.refl _ _).alloc (Nat.le_refl _) _)).below hb7); clear x5_6
  clear hb7
  have Z1 := hide z1; have Z2 := hide z2; have Z3 := hide z3
  clear a0 a1 b0 b1 e0 e1 s1 s2 s3
  obtain ⟨a0, a1, s1⟩ := z1; obtain ⟨b0, b1, s2⟩ := z2; obtain ⟨e0, e1, s3⟩ := z3
  go_wp2_with fail
  refine (rmul_c m4 _ h1 h2 h3 h4).mono ?_
  rintro e w8 ⟨rfl, hb8⟩
  have k8 : Below w.heap.size w w8 := back (k7.alloc k7.size _) hb8
  have z1 := (Z1.out.below ((Below.refl _ _).alloc (Nat.le_refl _) _)).below hb8; clear Z1
  have z2 := (Z2.out.below ((Below.refl _ _).alloc (Nat.le_refl _) _)).below hb8; clear Z2
  have z3 := (Z3.out.below ((Below.refl _ _).alloc (Nat.le_refl _) _)).below hb8; clear Z3
  have x7_8 := hide ((Bx.new w7 p4 q4 23).below hb8)
  have x1_8 := hide ((x1_7.out.below ((Below.refl _ _).alloc (Nat.le_refl _) _)).below hb8); clear x1_7
  have x2_8 := hide ((x2_7.out.below ((Below.refl _ _).alloc (Nat.le_refl _) _)).below hb8); clear x2_7
  have x3_8 := hide ((x3_7.out.below ((Below.refl _ _).alloc (Nat.le_refl _) _)).below hb8); clear x3_7
  have x4_8 := hide ((x4_7.out.below ((Below.refl _ _).alloc (Nat.le_refl _) _)).below hb8); clear x4_7
  have x5_8 := hide ((x5_7.out.below ((Below.refl _ _).alloc (Nat.le_refl _) _)).below hb8); clear x5_7
  have x6_8 := hide ((x6_7.out.below ((Below.refl _ _).alloc (Nat.le_refl _) _)).below hb8); clear x6_7
  clear hb8
  have Z1 := hide z1; have Z2 := hide z2; have Z3 := hide z3
  clear a0 a1 b0 b1 e0 e1 s1 s2 s3
  obtain ⟨a0, a1, s1⟩ := z1; obtain ⟨b0, b1, s2⟩ := z2; obtain ⟨e0, e1, s3⟩ := z3
  go_wp2_with fail
  refine (div_c m5 _ h1 h2 h3 h4).mono ?_
  rintro e w9 ⟨rfl, hb9⟩
  have k9 : Below w.heap.size w w9 := back (k8.alloc k8.size _) hb9
  have z1 := (Z1.out.below ((Below.refl _ _).alloc (Nat.le_refl _) _)).below hb9; clear Z1
  have z2 := (Z2.out.below ((Below.refl _ _).alloc (Nat.le_refl _) _)).below hb9; clear Z2
  have z3 := (Z3.out.below ((Below.refl _ _).alloc (Nat.le_refl _) _)).below hb9; clear Z3
  have x8_9 := hide ((Bx.new w8 p4 q4 23).below hb9)
  have x1_9 := hide ((x1_8.out.below ((Below.refl _ _).alloc (Nat.le_refl _) _)).below hb9); clear x1_8
  have x2_9 := hide ((x2_8.out.below ((Below.refl _ _).alloc (Nat.le_refl _) _)).below hb9); clear x2_8
  have x3_9 := hide ((x3_8.out.below ((Below.refl _ _).alloc (Nat.le_refl _) _)).below hb9); clear x3_8
  have x4_9 := hide ((x4_8.out.below ((Below.refl _ _).alloc (Nat.le_refl _) _)).below hb9); clear x4_8
  have x5_9 := hide ((x5_8.out.below ((Below.refl _ _).alloc (Nat.le_refl _) _)).below hb9); clear x5_8
  have x6_9 := hide ((x6_8.out.below ((Below.refl _ _).alloc (Nat.le_refl _) _)).below hb9); clear x6_8
  have x7_9 := hide ((x7_8.out.below ((Below.refl _ _).alloc (Nat.le_refl _) _)).below hb9); clear x7_8
  clear hb9
  have Z1 := hide z1; have Z2 := hide z2; have Z3 := hide z3
  clear a0 a1 b0 b1 e0 e1 s1 s2 s3
  obtain ⟨a0, a1, s1⟩ := z1; obtain ⟨b0, b1, s2⟩ := z2; obtain ⟨e0, e1, s3⟩ := z3
  go_wp2_with fail
  refine (rdiv_c m5 _ h1 h2 h3 h4).mono ?_
  rintro e w10 ⟨rfl, hb10⟩
  have k10 : Below w.heap.size w w10 := back (k9.alloc k9.size _) hb10
  have z1 := (Z1.out.below ((Below.refl _ _).alloc (Nat.le_refl _) _)).below hb10; clear Z1
  have z2 := (Z2.out.below ((Below.refl _ _).alloc (Nat.le_refl _) _)).below hb10; clear Z2
  have z3 := (Z3.out.below ((Below.refl _ _).alloc (Nat.le_refl _) _)).below hb10; clear Z3
  have x9_10 := hide ((Bx.new w9 p5 q5 23).below hb10)
  have x1_10 := hide ((x1_9.out.below ((Below.refl _ _).alloc (Nat.le_refl _) _)).below hb10); clear x1_9
  have x2_10 := hide ((x2_9.out.below ((Below.refl _ _).alloc (Nat.le_refl _) _)).below hb10); clear x2_9
  have x3_10 := hide ((x3_9.out.below ((Below.refl _ _).alloc (Nat.le_refl _) _)).below hb10); clear x3_9
  have x4_10 := hide ((x4_9.out.below ((Below.refl _ _).alloc (Nat.le_refl _) _)).below hb10); clear x4_9
  have x5_10 := hide ((x5_9.out.below ((Below.refl _ _).alloc (Nat.le_refl _) _)).below hb10); clear x5_9
  have x6_10 := hide ((x6_9.out.below ((Below.refl _ _).alloc (Nat.le_refl _) _)).below hb10); clear x6_9
  have x7_10 := hide ((x7_9.out.below ((Below.refl _ _).alloc (Nat.le_refl _) _)).below hb10); clear x7_9
  have x8_10 := hide ((x8_9.out.below ((Below.refl _ _).alloc (Nat.le_refl _) _)).below hb10); clear x8_9
  clear hb10
  have Z1 := hide z1; have Z2 := hide z2; have Z3 := hide z3
  clear a0 a1 b0 b1 e0 e1 s1 s2 s3
  obtain ⟨a0, a1, s1⟩ := z1; obtain ⟨b0, b1, s2⟩ := z2; obtain ⟨e0, e1, s3⟩ := z3
  go_wp2_with fail
  refine (G1.out _).mono ?_
  rintro e w11 ⟨rfl, hb11⟩
  have k11 : Below w.heap.size w w11 := back (k10.alloc k10.size _) hb11
  have z1 := (Z1.out.below ((Below.refl _ _).alloc (Nat.le_refl _) _)).below hb11; clear Z1
  have z2 := (Z2.out.below ((Below.refl _ _).alloc (Nat.le_refl _) _)).below hb11; clear Z2
  have z3 := (Z3.out.below ((Below.refl _ _).alloc (Nat.le_refl _) _)).below hb11; clear Z3
  have x10_11 := hide ((Bx.new w10 p5 q5 23).below hb11)
  have x1_11 := hide ((x1_10.out.below ((Below.refl _ _).alloc (Nat.le_refl _) _)).below hb11); clear x1_10
  have x2_11 := hide ((x2_10.out.below ((Below.refl _ _).alloc (Nat.le_refl _) _)).below hb11); clear x2_10
  have x3_11 := hide ((x3_10.out.below ((Below.refl _ _).alloc (Nat.le_refl _) _)).below hb11); clear x3_10
  have x4_11 := hide ((x4_10.out.below ((Below.refl _ _).alloc (Nat.le_refl _) _)).below hb11); clear x4_10
  have x5_11 := hide ((x5_10.out.below ((Below.refl _ _).alloc (Nat.le_refl _) _)).below hb11); clear x5_10
  have x6_11 := hide ((x6_10.out.below ((Below.refl _ _).alloc (Nat.le_refl _) _)).below hb11); clear x6_10
  have x7_11 := hide ((x7_10.out.below ((Below.refl _ _).alloc (Nat.le_refl _) _)).below hb11); clear x7_10
  have x8_11 := hide ((x8_10.out.below ((Below.refl _ _).alloc (Nat.le_refl _) _)).below hb11); clear x8_10
  have x9_11 := hide ((x9_10.out.below ((Below.refl _ _).alloc (Nat.le_refl _) _)).below hb11); clear x9_10
  clear hb11
  have Z1 := hide z1; have Z2 := hide z2; have Z3 := hide z3
  clear a0 a1 b0 b1 e0 e1 s1 s2 s3
  obtain ⟨a0, a1, s1⟩ := z1; obtain ⟨b0, b1, s2⟩ := z2; obtain ⟨e0, e1, s3⟩ := z3
  go_wp2_with fail
  refine (G2.out _).mono ?_
  rintro e w12 ⟨rfl, hb12⟩
  have k12 : Below w.heap.size w w12 := back k11 hb12
  have z1 := Z1.out.below hb12; clear Z1
  have z2 := Z2.out.below hb12; clear Z2
  have z3 := Z3.out.below hb12; clear Z3
  have x1_12 := hide (x1_11.out.below hb12); clear x1_11
  have x2_12 := hide (x2_11.out.below hb12); clear x2_11
  have x3_12 := hide (x3_11.out.below hb12); clear x3_11
  have x4_12 := hide (x4_11.out.below hb12); clear x4_11
  have x5_12 := hide (x5_11.out.below hb12); clear x5_11
  have x6_12 := hide (x6_11.out.below hb12); clear x6_11
  have x7_12 := hide (x7_11.out.below hb12); clear x7_11
  have x8_12 := hide (x8_11.out.below hb12); clear x8_11
  have x9_12 := hide (x9_11.out.below hb12); clear x9_11
  have x10_12 := hide (x10_11.out.below hb12); clear x10_11
  clear hb12
  have Z1 := hide z1; have Z2 := hide z2; have Z3 := hide z3
  clear a0 a1 b0 b1 e0 e1 s1 s2 s3
  obtain ⟨a0, a1, s1⟩ := z1; obtain ⟨b0, b1, s2⟩ := z2; obtain ⟨e0, e1, s3⟩ := z3
  go_wp2_with fail
  refine (G3.out _).mono ?_
  rintro e w13 ⟨rfl, hb13⟩
  have k13 : Below w.heap.size w w13 := back k12 hb13
  have z1 := Z1.out.below hb13; clear Z1
  have z2 := Z2.out.below hb13; clear Z2
  have z3 := Z3.out.below hb13; clear Z3
  have x1_13 := hide (x1_12.out.below hb13); clear x1_12
  have x2_13 := hide (x2_12.out.below hb13); clear x2_12
  have x3_13 := hide (x3_12.out.below hb13); clear x3_12
  have x4_13 := hide (x4_12.out.below hb13); clear x4_12
  have x5_13 := hide (x5_12.out.below hb13); clear x5_12
  have x6_13 := hide (x6_12.out.below hb13); clear x6_12
  have x7_13 := hide (x7_12.out.below hb13); clear x7_12
  have x8_13 := hide (x8_12.out.below hb13); clear x8_12
  have x9_13 := hide (x9_12.out.below hb13); clear x9_12
  have x10_13 := hide (x10_12.out.below hb13); clear x10_12
  clear hb13
  have Z1 := hide z1; have Z2 := hide z2; have Z3 := hide z3
  clear a0 a1 b0 b1 e0 e1 s1 s2 s3
  obtain ⟨a0, a1, s1⟩ := z1; obtain ⟨b0, b1, s2⟩ := z2; obtain ⟨e0, e1, s3⟩ := z3
  go_wp2_with fail
  refine (G4.out _).mono ?_
  rintro e w14 ⟨rfl, hb14⟩
  have k14 : Below w.heap.size w w14 := back k13 hb14
  have z1 := Z1.out.below hb14; clear Z1
  have z2 := Z2.out.below hb14; clear Z2
  have z3 := Z3.out.below hb14; clear Z3
  have x1_14 := hide (x1_13.out.below hb14); clear x1_13
  have x2_14 := hide (x2_13.out.below hb14); clear x2_13
  have x3_14 := hide (x3_13.out.below hb14); clear x3_13
  have x4_14 := hide (x4_13.out.below hb14); clear x4_13
  have x5_14 := hide (x5_13.out.below hb14); clear x5_13
  have x6_14 := hide (x6_13.out.below hb14); clear x6_13
  have x7_14 := hide (x7_13.out.below hb14); clear x7_13
  have x8_14 := hide (x8_13.out.below hb14); clear x8_13
  have x9_14 := hide (x9_13.out.below hb14); clear x9_13
  have x10_14 := hide (x10_13.out.below hb14); clear x10_13
  clear hb14
  have Z1 := hide z1; have Z2 := hide z2; have Z3 := hide z3
  clear a0 a1 b0 b1 e0 e1 s1 s2 s3
  obtain ⟨a0, a1, s1⟩ := z1; obtain ⟨b0, b1, s2⟩ := z2; obtain ⟨e0, e1, s3⟩ := z3
  go_wp2_with fail
  refine (G5.out _).mono ?_
  rintro e w15 ⟨rfl, hb15⟩
  have k15 : Below w.heap.size w w15 := back k14 hb15
  have z1 := Z1.out.below hb15; clear Z1
  have z2 := Z2.out.below hb15; clear Z2
  have z3 := Z3.out.below hb15; clear Z3
  have x1_15 := hide (x1_14.out.below hb15); clear x1_14
  have x2_15 := hide (x2_14.out.below hb15); clear x2_14
  have x3_15 := hide (x3_14.out.below hb15); clear x3_14
  have x4_15 := hide (x4_14.out.below hb15); clear x4_14
  have x5_15 := hide (x5_14.out.below hb15); clear x5_14
  have x6_15 := hide (x6_14.out.below hb15); clear x6_14
  have x7_15 := hide (x7_14.out.below hb15); clear x7_14
  have x8_15 := hide (x8_14.out.below hb15); clear x8_14
  have x9_15 := hide (x9_14.out.below hb15); clear x9_14
  have x10_15 := hide (x10_14.out.below hb15); clear x10_14
  clear hb15
  have Z1 := hide z1; have Z2 := hide z2; have Z3 := hide z3
  clear a0 a1 b0 b1 e0 e1 s1 s2 s3
  obtain ⟨a0, a1, s1⟩ := z1; obtain ⟨b0, b1, s2⟩ := z2; obtain ⟨e0, e1, s3⟩ := z3
  go_wp2_with fail
  refine (G6.out _).mono ?_
  rintro e w16 ⟨rfl, hb16⟩
  have k16 : Below w.heap.size w w16 := back k15 hb16
  have z1 := Z1.out.below hb16; clear Z1
  have z2 := Z2.out.below hb16; clear Z2
  have z3 := Z3.out.below hb16; clear Z3
  have x1_16 := hide (x1_15.out.below hb16); clear x1_15
  have x2_16 := hide (x2_15.out.below hb16); clear x2_15
  have x3_16 := hide (x3_15.out.below hb16); clear x3_15
  have x4_16 := hide (x4_15.out.below hb16); clear x4_15
  have x5_16 := hide (x5_15.out.below hb16); clear x5_15
  have x6_16 := hide (x6_15.out.below hb16); clear x6_15
  have x7_16 := hide (x7_15.out.below hb16); clear x7_15
  have x8_16 := hide (x8_15.out.below hb16); clear x8_15
  have x9_16 := hide (x9_15.out.below hb16); clear x9_15
  have x10_16 := hide (x10_15.out.below hb16); clear x10_15
  clear hb16
  have Z1 := hide z1; have Z2 := hide z2; have Z3 := hide z3
  clear a0 a1 b0 b1 e0 e1 s1 s2 s3
  obtain ⟨a0, a1, s1⟩ := z1; obtain ⟨b0, b1, s2⟩ := z2; obtain ⟨e0, e1, s3⟩ := z3
  obtain ⟨f1, g1, t1⟩ := x1_16.out
  obtain ⟨f2, g2, t2⟩ := x2_16.out
  obtain ⟨f3, g3, t3⟩ := x3_16.out
  obtain ⟨f4, g4, t4⟩ := x4_16.out
  obtain ⟨f5, g5, t5⟩ := x5_16.out
  obtain ⟨f6, g6, t6⟩ := x6_16.out
  obtain ⟨f7, g7, t7⟩ := x7_16.out
  obtain ⟨f8, g8, t8⟩ := x8_16.out
  obtain ⟨f9, g9, t9⟩ := x9_16.out
  obtain ⟨f10, g10, t10⟩ := x10_16.out
  go_wp2_with fail
  clear f1 g1 t1 x1_16 f2 g2 t2 x2_16 f3 g3 t3 x3_16 f4 g4 t4 x4_16 f5 g5 t5 x5_16 f6 g6 t6 x6_16 f7 g7 t7 x7_16 f8 g8 t8 x8_16 f9 g9 t9 x9_16 f10 g10 t10 x10_16 G1 G2 G3 G4 G5 G6 m1 m2 m3 m4 m5 e0 e1 Z1 Z2 Z3 k0 k1 k2 k3 k4 k5 k6 k7 k8 k9 k10 k11 k12 k13 k14 k15
  have kp : ∀ W W' : World, (W.cell? ⟨w.heap.size, 0, none⟩ = some (.int .i64 an) ∧ W.cell? ⟨w.heap.size, 1, none⟩ = some (.int .i64 ad) ∧ W.cell? ⟨w.heap.size + 1, 0, none⟩ = some (.int .i64 bn) ∧ W.cell? ⟨w.heap.size + 1, 1, none⟩ = some (.int .i64 bd) ∧ Below w.heap.size w W ∧ w.heap.size + 1 < W.heap.size) → Below W.heap.size W W' →
      (W'.cell? ⟨w.heap.size, 0, none⟩ = some (.int .i64 an) ∧ W'.cell? ⟨w.heap.size, 1, none⟩ = some (.int .i64 ad) ∧ W'.cell? ⟨w.heap.size + 1, 0, none⟩ = some (.int .i64 bn) ∧ W'.cell? ⟨w.heap.size + 1, 1, none⟩ = some (.int .i64 bd) ∧ Below w.heap.size w W' ∧ w.heap.size + 1 < W'.heap.size) := by
    intro W W' ⟨q0, q1, q2, q3, q4, q5⟩ hb
    refine ⟨(hb.cell (p := ⟨w.heap.size, 0, none⟩) (by show w.heap.size < _; omega)).trans q0, (hb.cell (p := ⟨w.heap.size, 1, none⟩) (by show w.heap.size < _; omega)).trans q1, (hb.cell (p := ⟨w.heap.size + 1, 0, none⟩) q5).trans q2, (hb.cell (p := ⟨w.heap.size + 1, 1, none⟩) q5).trans q3, back q4 hb, Nat.lt_of_lt_of_le q5 hb.size⟩
  have st : (w16.cell? ⟨w.heap.size, 0, none⟩ = some (.int .i64 an) ∧ w16.cell? ⟨w.heap.size, 1, none⟩ = some (.int .i64 ad) ∧ w16.cell? ⟨w.heap.size + 1, 0, none⟩ = some (.int .i64 bn) ∧ w16.cell? ⟨w.heap.size + 1, 1, none⟩ = some (.int .i64 bd) ∧ Below w.heap.size w w16 ∧ w.heap.size + 1 < w16.heap.size) := ⟨a0, a1, b0, b1, k16, s2⟩
  have KP := hide kp; have ST := hide st
  clear kp st a0 a1 b0 b1 k16 s1 s2 s3
  go_region_held3 (fun W => W.cell? ⟨w.heap.size, 0, none⟩ = some (.int .i64 an) ∧ W.cell? ⟨w.heap.size, 1, none⟩ = some (.int .i64 ad) ∧ W.cell? ⟨w.heap.size + 1, 0, none⟩ = some (.int .i64 bn) ∧ W.cell? ⟨w.heap.size + 1, 1, none⟩ = some (.int .i64 bd) ∧ Below w.heap.size w W ∧ w.heap.size + 1 < W.heap.size) (first | exact ST.out | (refine KP.out _ _ (by assumption) ?_; first | assumption | exact below_drewN (Below.refl _ _) 1) | assumption)
    (first
      | (go_at_call 28; refine (G7.out _).mono ?_; rintro e w' ⟨rfl, hb⟩)
      | (go_at_call 29; refine (G8.out _).mono ?_; rintro e w' ⟨rfl, hb⟩)
      | (go_at_call 30; refine (G9.out _).mono ?_; rintro e w' ⟨rfl, hb⟩)
      | (go_at_call 31; refine (G10.out _).mono ?_; rintro e w' ⟨rfl, hb⟩)
      | (go_at_call 32; refine (sane_w _).mono ?_; rintro e w' ⟨rfl, hb⟩))
  have hK : Below w.heap.size w w' := by first | exact keep.2.2.2.2.1 | (rename_i hS; exact hS.2.2.2.2.1) | exact (show _ ∧ _ ∧ _ ∧ _ ∧ Below w.heap.size w w' ∧ _ by assumption).2.2.2.2.1
  go_wp2
  go_ret
  exact ⟨rfl, hK⟩
end Go.Proofs.Ytlpoenoijmifdaa
