import Derived.Test.YtgbfnonfecpajaaGreatZd08
import Derived.Test.YtgbfnonfecpajaaGreatZd05
import Derived.Test.YtgbfnonfecpajaaGreatProg
import Derived.KernelRfl
set_option linter.unusedVariables false
set_option linter.unusedSimpArgs false
/- The law about heights, by the evaluator. -/
namespace Go.Proofs.YtgbfnonfecpajaaGreat
open Go Go.RowKit
namespace Ev

section
theorem MarkHeights_s (n : Nat) (L D : Int) (a c : Option Addr) (cap cap2 : Nat) (rs ss : List (List Int)) (zone d : Int) (s : St) (hs : Wf s) (hn : 281474976710656 ≤ n) (hR : RowsE s 2 a rs) (hS : RowsE s 4 c ss) : Spec Tryz.prog (tabK tabm) (knownX 6) (n + 1200) 4 [.agg ⟨[.int .i64 L, .int .i64 D, .slice a rs.length cap, .slice c ss.length cap2]⟩, .agg ⟨[.int .i64 zone, .int .i64 d]⟩] s (fun v A => v = .bool true ∧ A = []) := by
  refine enter bm4_at rfl hs ?_
  unfold bm4
  refine r_seq ?_
  refine r_items ?_
  refine i_op (a_box rfl rfl rfl (fun b1 => ?_)) rfl rfl
  refine i_op (a_box rfl rfl rfl (fun b2 => ?_)) rfl rfl
  refine i_op (a_mov rfl ?_) rfl rfl
  refine i_nil ?_
  refine then_n ?_
  refine r_seq ?_
  refine r_items ?_
  refine i_op (a_callV rfl rfl (fun s1 h1 => known_s _ s1 h1.wf) ?_) rfl rfl
  refine i_op (a_mov rfl ?_) rfl rfl
  refine i_nil ?_
  refine then_n ?_
  refine r_seq ?_
  refine r_items ?_
  refine i_op (a_lda rfl (by decide) (.next .here) rfl ?_) rfl rfl
  refine i_op (a_call rfl rfl (fun s1 h1 => Freeboard_s _ _ _ _ _ _ _ _ _ s1 h1.wf (by omega) (hR.ext hs h1.2.1) (hS.ext hs h1.2.1)) (fun v1 A1 q1 => ?_)) rfl rfl
  rcases q1 with ⟨hL, rfl, rfl⟩ | ⟨hL, i0, f0, rfl, rfl⟩
  · refine i_op (a_mov rfl ?_) rfl rfl
    refine i_op (a_ext rfl rfl ?_) rfl rfl
    refine i_op (a_ext rfl rfl ?_) rfl rfl
    refine i_op (a_mov rfl ?_) rfl rfl
    refine i_op (a_mov rfl ?_) rfl rfl
    refine i_nil ?_
    refine then_n ?_
    refine r_seq ?_
    refine r_items ?_
    refine i_op (a_lda rfl (by decide) (.next .here) rfl ?_) rfl rfl
    refine i_op (a_call rfl rfl (fun s1 h1 => rFreeboard_s _ _ _ _ _ _ _ _ _ s1 h1.wf (by omega) (hR.ext hs h1.2.1) (hS.ext hs h1.2.1)) (fun v1 A1 q1 => ?_)) rfl rfl
    rcases q1 with ⟨hL, rfl, rfl⟩ | ⟨hL, i1, f1, rfl, rfl⟩
    · refine i_op (a_mov rfl ?_) rfl rfl
      refine i_op (a_ext rfl rfl ?_) rfl rfl
      refine i_op (a_ext rfl rfl ?_) rfl rfl
      refine i_op (a_mov rfl ?_) rfl rfl
      refine i_op (a_mov rfl ?_) rfl rfl
      refine i_nil ?_
      refine then_n ?_
      refine r_seq ?_
      refine r_items ?_
      refine i_op (a_lda rfl (by decide) (.next .here) rfl ?_) rfl rfl
      refine i_op (a_iaa (j := 0) rfl rfl (by decide) (by decide) ?_) rfl rfl
      refine i_op (a_ld rfl .here rfl ?_) rfl rfl
      refine i_op (a_iaa (j := 1) rfl rfl (by decide) (by decide) ?_) rfl rfl
      refine i_op (a_ld rfl .here rfl ?_) rfl rfl
      refine i_op (a_call rfl rfl (fun s1 h1 => Extra_s _ _ _ _ _ _ _ _ _ _ _ s1 h1.wf (by omega) (hR.ext hs h1.2.1) (hS.ext hs h1.2.1)) (fun v1 A1 q1 => ?_)) rfl rfl
      rcases q1 with ⟨hL, rfl, rfl⟩ | ⟨hL, hz, rfl, rfl⟩ | ⟨hL, hz, hd, rfl, rfl⟩ | ⟨hL, hz, hd, rfl, rfl⟩
      · refine i_op (a_mov rfl ?_) rfl rfl
        refine i_op (a_ext rfl rfl ?_) rfl rfl
        refine i_op (a_ext rfl rfl ?_) rfl rfl
        refine i_op (a_mov rfl ?_) rfl rfl
        refine i_op (a_mov rfl ?_) rfl rfl
        refine i_nil ?_
        refine then_n ?_
        refine r_seq ?_
        refine r_items ?_
        refine i_op (a_lda rfl (by decide) (.next .here) rfl ?_) rfl rfl
        refine i_op (a_iaa (j := 0) rfl rfl (by decide) (by decide) ?_) rfl rfl
        refine i_op (a_ld rfl .here rfl ?_) rfl rfl
        refine i_op (a_iaa (j := 1) rfl rfl (by decide) (by decide) ?_) rfl rfl
        refine i_op (a_ld rfl .here rfl ?_) rfl rfl
        refine i_op (a_call rfl rfl (fun s1 h1 => rExtra_s _ _ _ _ _ _ _ _ _ _ _ s1 h1.wf (by omega) (hR.ext hs h1.2.1) (hS.ext hs h1.2.1)) (fun v1 A1 q1 => ?_)) rfl rfl
        rcases q1 with ⟨hL, rfl, rfl⟩ | ⟨hL, hz, rfl, rfl⟩ | ⟨hL, hz, hd, rfl, rfl⟩ | ⟨hL, hz, hd, rfl, rfl⟩
        · refine i_op (a_mov rfl ?_) rfl rfl
          refine i_op (a_ext rfl rfl ?_) rfl rfl
          refine i_op (a_ext rfl rfl ?_) rfl rfl
          refine i_op (a_mov rfl ?_) rfl rfl
          refine i_op (a_mov rfl ?_) rfl rfl
          refine i_nil ?_
          refine then_n ?_
          refine r_seq ?_
          refine r_items ?_
          refine i_op (a_lda rfl (by decide) (.next .here) rfl ?_) rfl rfl
          refine i_op (a_iaa (j := 0) rfl rfl (by decide) (by decide) ?_) rfl rfl
          refine i_op (a_ld rfl .here rfl ?_) rfl rfl
          refine i_op (a_iaa (j := 1) rfl rfl (by decide) (by decide) ?_) rfl rfl
          refine i_op (a_ld rfl .here rfl ?_) rfl rfl
          refine i_op (a_call rfl rfl (fun s1 h1 => Height_s _ _ _ _ _ _ _ _ _ _ _ s1 h1.wf (by omega) (hR.ext hs h1.2.1) (hS.ext hs h1.2.1)) (fun v1 A1 q1 => ?_)) rfl rfl
          rcases q1 with ⟨hL, rfl, rfl⟩ | ⟨hL, hz, rfl, rfl⟩ | ⟨hL, hz, hd, rfl, rfl⟩ | ⟨hL, hz, hd, i2, f2, rfl, rfl⟩
          · refine i_op (a_mov rfl ?_) rfl rfl
            refine i_op (a_ext rfl rfl ?_) rfl rfl
            refine i_op (a_ext rfl rfl ?_) rfl rfl
            refine i_op (a_mov rfl ?_) rfl rfl
            refine i_op (a_mov rfl ?_) rfl rfl
            refine i_nil ?_
            refine then_n ?_
            refine r_seq ?_
            refine r_items ?_
            refine i_op (a_lda rfl (by decide) (.next .here) rfl ?_) rfl rfl
            refine i_op (a_iaa (j := 0) rfl rfl (by decide) (by decide) ?_) rfl rfl
            refine i_op (a_ld rfl .here rfl ?_) rfl rfl
            refine i_op (a_iaa (j := 1) rfl rfl (by decide) (by decide) ?_) rfl rfl
            refine i_op (a_ld rfl .here rfl ?_) rfl rfl
            refine i_op (a_call rfl rfl (fun s1 h1 => rHeight_s _ _ _ _ _ _ _ _ _ _ _ s1 h1.wf (by omega) (hR.ext hs h1.2.1) (hS.ext hs h1.2.1)) (fun v1 A1 q1 => ?_)) rfl rfl
            rcases q1 with ⟨hL, rfl, rfl⟩ | ⟨hL, hz, rfl, rfl⟩ | ⟨hL, hz, hd, rfl, rfl⟩ | ⟨hL, hz, hd, i3, f3, rfl, rfl⟩
            · refine i_op (a_mov rfl ?_) rfl rfl
              refine i_op (a_ext rfl rfl ?_) rfl rfl
              refine i_op (a_ext rfl rfl ?_) rfl rfl
              refine i_op (a_mov rfl ?_) rfl rfl
              refine i_op (a_mov rfl ?_) rfl rfl
              refine i_nil ?_
              refine then_n ?_
              refine r_seq ?_
              refine r_items ?_
              refine i_op (a_mov rfl ?_) rfl rfl
              refine i_op (a_mov rfl ?_) rfl rfl
              refine i_op (a_mov rfl ?_) rfl rfl
              refine i_op (a_mov rfl ?_) rfl rfl
              refine i_op (a_eql rfl rfl (fun _ => ?_) (fun h => absurd h (by decide))) rfl rfl
              refine i_op (a_pick_t rfl rfl rfl ?_) rfl rfl
              refine i_op (a_mov rfl ?_) rfl rfl
              refine i_op (a_mov rfl ?_) rfl rfl
              refine i_op (a_mov rfl ?_) rfl rfl
              refine i_op (a_eql rfl rfl (fun _ => ?_) (fun h => absurd h (by decide))) rfl rfl
              refine i_op (a_pick_t rfl rfl rfl ?_) rfl rfl
              refine i_op (a_mov rfl ?_) rfl rfl
              refine i_op (a_mov rfl ?_) rfl rfl
              refine i_op (a_mov rfl ?_) rfl rfl
              refine i_op (a_eql rfl rfl (fun _ => ?_) (fun h => absurd h (by decide))) rfl rfl
              refine i_op (a_pick_t rfl rfl rfl ?_) rfl rfl
              refine i_op (a_mov rfl ?_) rfl rfl
              refine i_op (a_mov rfl ?_) rfl rfl
              refine i_op (a_mov rfl ?_) rfl rfl
              refine i_op (a_eql rfl rfl (fun _ => ?_) (fun h => absurd h (by decide))) rfl rfl
              refine i_op (a_pick_t rfl rfl rfl ?_) rfl rfl
              refine i_op (a_mov rfl ?_) rfl rfl
              refine i_op (a_mov rfl ?_) rfl rfl
              refine i_op (a_mov rfl ?_) rfl rfl
              refine i_op (a_eql rfl rfl (fun _ => ?_) (fun h => absurd h (by decide))) rfl rfl
              refine i_op (a_pick_t rfl rfl rfl ?_) rfl rfl
              refine i_op (a_mov rfl ?_) rfl rfl
              refine i_op (a_mov rfl ?_) rfl rfl
              refine i_op (a_mov rfl ?_) rfl rfl
              refine i_op (a_eql rfl rfl (fun _ => ?_) (fun h => absurd h (by decide))) rfl rfl
              refine i_op (a_pick_t rfl rfl rfl ?_) rfl rfl
              refine i_op (a_mov rfl ?_) rfl rfl
              refine i_nil ?_
              refine then_n ?_
              refine r_ret ?_
              first
                | exact end1 rfl ⟨rfl, rfl⟩
                | (exfalso; contradiction)
                | (exfalso; omega)
            · exfalso; first | contradiction | omega
            · exfalso; first | contradiction | omega
            · exfalso; first | contradiction | omega
          · exfalso; first | contradiction | omega
          · exfalso; first | contradiction | omega
          · exfalso; first | contradiction | omega
        · exfalso; first | contradiction | omega
        · exfalso; first | contradiction | omega
        · exfalso; first | contradiction | omega
      · exfalso; first | contradiction | omega
      · exfalso; first | contradiction | omega
      · exfalso; first | contradiction | omega
    · exfalso; first | contradiction | omega
  · refine i_op (a_mov rfl ?_) rfl rfl
    refine i_op (a_ext rfl rfl ?_) rfl rfl
    refine i_op (a_ext rfl rfl ?_) rfl rfl
    refine i_op (a_mov rfl ?_) rfl rfl
    refine i_op (a_mov rfl ?_) rfl rfl
    refine i_nil ?_
    refine then_n ?_
    refine r_seq ?_
    refine r_items ?_
    refine i_op (a_lda rfl (by decide) (.next .here) rfl ?_) rfl rfl
    refine i_op (a_call rfl rfl (fun s1 h1 => rFreeboard_s _ _ _ _ _ _ _ _ _ s1 h1.wf (by omega) (hR.ext hs h1.2.1) (hS.ext hs h1.2.1)) (fun v1 A1 q1 => ?_)) rfl rfl
    rcases q1 with ⟨hL, rfl, rfl⟩ | ⟨hL, i1, f1, rfl, rfl⟩
    · exfalso; first | contradiction | omega
    · obtain rfl := IsFst.uniq f0 f1
      refine i_op (a_mov rfl ?_) rfl rfl
      refine i_op (a_ext rfl rfl ?_) rfl rfl
      refine i_op (a_ext rfl rfl ?_) rfl rfl
      refine i_op (a_mov rfl ?_) rfl rfl
      refine i_op (a_mov rfl ?_) rfl rfl
      refine i_nil ?_
      refine then_n ?_
      refine r_seq ?_
      refine r_items ?_
      refine i_op (a_lda rfl (by decide) (.next .here) rfl ?_) rfl rfl
      refine i_op (a_iaa (j := 0) rfl rfl (by decide) (by decide) ?_) rfl rfl
      refine i_op (a_ld rfl .here rfl ?_) rfl rfl
      refine i_op (a_iaa (j := 1) rfl rfl (by decide) (by decide) ?_) rfl rfl
      refine i_op (a_ld rfl .here rfl ?_) rfl rfl
      refine i_op (a_call rfl rfl (fun s1 h1 => Extra_s _ _ _ _ _ _ _ _ _ _ _ s1 h1.wf (by omega) (hR.ext hs h1.2.1) (hS.ext hs h1.2.1)) (fun v1 A1 q1 => ?_)) rfl rfl
      rcases q1 with ⟨hL, rfl, rfl⟩ | ⟨hL, hz, rfl, rfl⟩ | ⟨hL, hz, hd, rfl, rfl⟩ | ⟨hL, hz, hd, rfl, rfl⟩
      · exfalso; first | contradiction | omega
      · refine i_op (a_mov rfl ?_) rfl rfl
        refine i_op (a_ext rfl rfl ?_) rfl rfl
        refine i_op (a_ext rfl rfl ?_) rfl rfl
        refine i_op (a_mov rfl ?_) rfl rfl
        refine i_op (a_mov rfl ?_) rfl rfl
        refine i_nil ?_
        refine then_n ?_
        refine r_seq ?_
        refine r_items ?_
        refine i_op (a_lda rfl (by decide) (.next .here) rfl ?_) rfl rfl
        refine i_op (a_iaa (j := 0) rfl rfl (by decide) (by decide) ?_) rfl rfl
        refine i_op (a_ld rfl .here rfl ?_) rfl rfl
        refine i_op (a_iaa (j := 1) rfl rfl (by decide) (by decide) ?_) rfl rfl
        refine i_op (a_ld rfl .here rfl ?_) rfl rfl
        refine i_op (a_call rfl rfl (fun s1 h1 => rExtra_s _ _ _ _ _ _ _ _ _ _ _ s1 h1.wf (by omega) (hR.ext hs h1.2.1) (hS.ext hs h1.2.1)) (fun v1 A1 q1 => ?_)) rfl rfl
        rcases q1 with ⟨hL, rfl, rfl⟩ | ⟨hL, hz, rfl, rfl⟩ | ⟨hL, hz, hd, rfl, rfl⟩ | ⟨hL, hz, hd, rfl, rfl⟩
        · exfalso; first | contradiction | omega
        · refine i_op (a_mov rfl ?_) rfl rfl
          refine i_op (a_ext rfl rfl ?_) rfl rfl
          refine i_op (a_ext rfl rfl ?_) rfl rfl
          refine i_op (a_mov rfl ?_) rfl rfl
          refine i_op (a_mov rfl ?_) rfl rfl
          refine i_nil ?_
          refine then_n ?_
          refine r_seq ?_
          refine r_items ?_
          refine i_op (a_lda rfl (by decide) (.next .here) rfl ?_) rfl rfl
          refine i_op (a_iaa (j := 0) rfl rfl (by decide) (by decide) ?_) rfl rfl
          refine i_op (a_ld rfl .here rfl ?_) rfl rfl
          refine i_op (a_iaa (j := 1) rfl rfl (by decide) (by decide) ?_) rfl rfl
          refine i_op (a_ld rfl .here rfl ?_) rfl rfl
          refine i_op (a_call rfl rfl (fun s1 h1 => Height_s _ _ _ _ _ _ _ _ _ _ _ s1 h1.wf (by omega) (hR.ext hs h1.2.1) (hS.ext hs h1.2.1)) (fun v1 A1 q1 => ?_)) rfl rfl
          rcases q1 with ⟨hL, rfl, rfl⟩ | ⟨hL, hz, rfl, rfl⟩ | ⟨hL, hz, hd, rfl, rfl⟩ | ⟨hL, hz, hd, i2, f2, rfl, rfl⟩
          · exfalso; first | contradiction | omega
          · refine i_op (a_mov rfl ?_) rfl rfl
            refine i_op (a_ext rfl rfl ?_) rfl rfl
            refine i_op (a_ext rfl rfl ?_) rfl rfl
            refine i_op (a_mov rfl ?_) rfl rfl
            refine i_op (a_mov rfl ?_) rfl rfl
            refine i_nil ?_
            refine then_n ?_
            refine r_seq ?_
            refine r_items ?_
            refine i_op (a_lda rfl (by decide) (.next .here) rfl ?_) rfl rfl
            refine i_op (a_iaa (j := 0) rfl rfl (by decide) (by decide) ?_) rfl rfl
            refine i_op (a_ld rfl .here rfl ?_) rfl rfl
            refine i_op (a_iaa (j := 1) rfl rfl (by decide) (by decide) ?_) rfl rfl
            refine i_op (a_ld rfl .here rfl ?_) rfl rfl
            refine i_op (a_call rfl rfl (fun s1 h1 => rHeight_s _ _ _ _ _ _ _ _ _ _ _ s1 h1.wf (by omega) (hR.ext hs h1.2.1) (hS.ext hs h1.2.1)) (fun v1 A1 q1 => ?_)) rfl rfl
            rcases q1 with ⟨hL, rfl, rfl⟩ | ⟨hL, hz, rfl, rfl⟩ | ⟨hL, hz, hd, rfl, rfl⟩ | ⟨hL, hz, hd, i3, f3, rfl, rfl⟩
            · exfalso; first | contradiction | omega
            · refine i_op (a_mov rfl ?_) rfl rfl
              refine i_op (a_ext rfl rfl ?_) rfl rfl
              refine i_op (a_ext rfl rfl ?_) rfl rfl
              refine i_op (a_mov rfl ?_) rfl rfl
              refine i_op (a_mov rfl ?_) rfl rfl
              refine i_nil ?_
              refine then_n ?_
              refine r_seq ?_
              refine r_items ?_
              refine i_op (a_mov rfl ?_) rfl rfl
              refine i_op (a_mov rfl ?_) rfl rfl
              refine i_op (a_mov rfl ?_) rfl rfl
              refine i_op (a_mov rfl ?_) rfl rfl
              refine i_op (a_eql rfl rfl (fun h9 => ?_) (fun h9 => ?_)) rfl rfl
              · refine i_op (a_pick_t rfl rfl rfl ?_) rfl rfl
                refine i_op (a_mov rfl ?_) rfl rfl
                refine i_op (a_mov rfl ?_) rfl rfl
                refine i_op (a_mov rfl ?_) rfl rfl
                refine i_op (a_eql rfl rfl (fun h10 => ?_) (fun h10 => ?_)) rfl rfl
                · refine i_op (a_pick_t rfl rfl rfl ?_) rfl rfl
                  refine i_op (a_mov rfl ?_) rfl rfl
                  refine i_op (a_mov rfl ?_) rfl rfl
                  refine i_op (a_mov rfl ?_) rfl rfl
                  refine i_op (a_eql rfl rfl (fun _ => ?_) (fun h => absurd h (by decide))) rfl rfl
                  refine i_op (a_pick_t rfl rfl rfl ?_) rfl rfl
                  refine i_op (a_mov rfl ?_) rfl rfl
                  refine i_op (a_mov rfl ?_) rfl rfl
                  refine i_op (a_mov rfl ?_) rfl rfl
                  refine i_op (a_eql rfl rfl (fun _ => ?_) (fun h => absurd h (by decide))) rfl rfl
                  refine i_op (a_pick_t rfl rfl rfl ?_) rfl rfl
                  refine i_op (a_mov rfl ?_) rfl rfl
                  refine i_op (a_mov rfl ?_) rfl rfl
                  refine i_op (a_mov rfl ?_) rfl rfl
                  refine i_op (a_eql rfl rfl (fun _ => ?_) (fun h => absurd h (by decide))) rfl rfl
                  refine i_op (a_pick_t rfl rfl rfl ?_) rfl rfl
                  refine i_op (a_mov rfl ?_) rfl rfl
                  refine i_op (a_mov rfl ?_) rfl rfl
                  refine i_op (a_mov rfl ?_) rfl rfl
                  refine i_op (a_eql rfl rfl (fun _ => ?_) (fun h => absurd h (by decide))) rfl rfl
                  refine i_op (a_pick_t rfl rfl rfl ?_) rfl rfl
                  refine i_op (a_mov rfl ?_) rfl rfl
                  refine i_nil ?_
                  refine then_n ?_
                  refine r_ret ?_
                  first
                    | exact end1 rfl ⟨rfl, rfl⟩
                    | (exfalso; contradiction)
                    | (exfalso; omega)
                · refine i_op (a_pick_t rfl rfl rfl ?_) rfl rfl
                  refine i_op (a_mov rfl ?_) rfl rfl
                  refine i_no rfl rfl ?_
                  refine i_no rfl rfl ?_
                  refine i_no rfl rfl ?_
                  refine i_op (a_pick_f rfl rfl rfl ?_) rfl rfl
                  refine i_op (a_mov rfl ?_) rfl rfl
                  refine i_no rfl rfl ?_
                  refine i_no rfl rfl ?_
                  refine i_no rfl rfl ?_
                  refine i_op (a_pick_f rfl rfl rfl ?_) rfl rfl
                  refine i_op (a_mov rfl ?_) rfl rfl
                  refine i_no rfl rfl ?_
                  refine i_no rfl rfl ?_
                  refine i_no rfl rfl ?_
                  refine i_op (a_pick_f rfl rfl rfl ?_) rfl rfl
                  refine i_op (a_mov rfl ?_) rfl rfl
                  refine i_no rfl rfl ?_
                  refine i_no rfl rfl ?_
                  refine i_no rfl rfl ?_
                  refine i_op (a_pick_f rfl rfl rfl ?_) rfl rfl
                  refine i_op (a_mov rfl ?_) rfl rfl
                  refine i_nil ?_
                  refine then_n ?_
                  refine r_ret ?_
                  first
                    | exact end1 rfl ⟨rfl, rfl⟩
                    | (exfalso; contradiction)
                    | (exfalso; omega)
              · refine i_op (a_pick_t rfl rfl rfl ?_) rfl rfl
                refine i_op (a_mov rfl ?_) rfl rfl
                refine i_no rfl rfl ?_
                refine i_no rfl rfl ?_
                refine i_no rfl rfl ?_
                refine i_op (a_pick_f rfl rfl rfl ?_) rfl rfl
                refine i_op (a_mov rfl ?_) rfl rfl
                refine i_no rfl rfl ?_
                refine i_no rfl rfl ?_
                refine i_no rfl rfl ?_
                refine i_op (a_pick_f rfl rfl rfl ?_) rfl rfl
                refine i_op (a_mov rfl ?_) rfl rfl
                refine i_no rfl rfl ?_
                refine i_no rfl rfl ?_
                refine i_no rfl rfl ?_
                refine i_op (a_pick_f rfl rfl rfl ?_) rfl rfl
                refine i_op (a_mov rfl ?_) rfl rfl
                refine i_no rfl rfl ?_
                refine i_no rfl rfl ?_
                refine i_no rfl rfl ?_
                refine i_op (a_pick_f rfl rfl rfl ?_) rfl rfl
                refine i_op (a_mov rfl ?_) rfl rfl
                refine i_no rfl rfl ?_
                refine i_no rfl rfl ?_
                refine i_no rfl rfl ?_
                refine i_op (a_pick_f rfl rfl rfl ?_) rfl rfl
                refine i_op (a_mov rfl ?_) rfl rfl
                refine i_nil ?_
                refine then_n ?_
                refine r_ret ?_
                first
                  | exact end1 rfl ⟨rfl, rfl⟩
                  | (exfalso; contradiction)
                  | (exfalso; omega)
            · exfalso; first | contradiction | omega
            · exfalso; first | contradiction | omega
          · exfalso; first | contradiction | omega
          · exfalso; first | contradiction | omega
        · exfalso; first | contradiction | omega
        · exfalso; first | contradiction | omega
      · refine i_op (a_mov rfl ?_) rfl rfl
        refine i_op (a_ext rfl rfl ?_) rfl rfl
        refine i_op (a_ext rfl rfl ?_) rfl rfl
        refine i_op (a_mov rfl ?_) rfl rfl
        refine i_op (a_mov rfl ?_) rfl rfl
        refine i_nil ?_
        refine then_n ?_
        refine r_seq ?_
        refine r_items ?_
        refine i_op (a_lda rfl (by decide) (.next .here) rfl ?_) rfl rfl
        refine i_op (a_iaa (j := 0) rfl rfl (by decide) (by decide) ?_) rfl rfl
        refine i_op (a_ld rfl .here rfl ?_) rfl rfl
        refine i_op (a_iaa (j := 1) rfl rfl (by decide) (by decide) ?_) rfl rfl
        refine i_op (a_ld rfl .here rfl ?_) rfl rfl
        refine i_op (a_call rfl rfl (fun s1 h1 => rExtra_s _ _ _ _ _ _ _ _ _ _ _ s1 h1.wf (by omega) (hR.ext hs h1.2.1) (hS.ext hs h1.2.1)) (fun v1 A1 q1 => ?_)) rfl rfl
        rcases q1 with ⟨hL, rfl, rfl⟩ | ⟨hL, hz, rfl, rfl⟩ | ⟨hL, hz, hd, rfl, rfl⟩ | ⟨hL, hz, hd, rfl, rfl⟩
        · exfalso; first | contradiction | omega
        · exfalso; first | contradiction | omega
        · refine i_op (a_mov rfl ?_) rfl rfl
          refine i_op (a_ext rfl rfl ?_) rfl rfl
          refine i_op (a_ext rfl rfl ?_) rfl rfl
          refine i_op (a_mov rfl ?_) rfl rfl
          refine i_op (a_mov rfl ?_) rfl rfl
          refine i_nil ?_
          refine then_n ?_
          refine r_seq ?_
          refine r_items ?_
          refine i_op (a_lda rfl (by decide) (.next .here) rfl ?_) rfl rfl
          refine i_op (a_iaa (j := 0) rfl rfl (by decide) (by decide) ?_) rfl rfl
          refine i_op (a_ld rfl .here rfl ?_) rfl rfl
          refine i_op (a_iaa (j := 1) rfl rfl (by decide) (by decide) ?_) rfl rfl
          refine i_op (a_ld rfl .here rfl ?_) rfl rfl
          refine i_op (a_call rfl rfl (fun s1 h1 => Height_s _ _ _ _ _ _ _ _ _ _ _ s1 h1.wf (by omega) (hR.ext hs h1.2.1) (hS.ext hs h1.2.1)) (fun v1 A1 q1 => ?_)) rfl rfl
          rcases q1 with ⟨hL, rfl, rfl⟩ | ⟨hL, hz, rfl, rfl⟩ | ⟨hL, hz, hd, rfl, rfl⟩ | ⟨hL, hz, hd, i2, f2, rfl, rfl⟩
          · exfalso; first | contradiction | omega
          · exfalso; first | contradiction | omega
          · refine i_op (a_mov rfl ?_) rfl rfl
            refine i_op (a_ext rfl rfl ?_) rfl rfl
            refine i_op (a_ext rfl rfl ?_) rfl rfl
            refine i_op (a_mov rfl ?_) rfl rfl
            refine i_op (a_mov rfl ?_) rfl rfl
            refine i_nil ?_
            refine then_n ?_
            refine r_seq ?_
            refine r_items ?_
            refine i_op (a_lda rfl (by decide) (.next .here) rfl ?_) rfl rfl
            refine i_op (a_iaa (j := 0) rfl rfl (by decide) (by decide) ?_) rfl rfl
            refine i_op (a_ld rfl .here rfl ?_) rfl rfl
            refine i_op (a_iaa (j := 1) rfl rfl (by decide) (by decide) ?_) rfl rfl
            refine i_op (a_ld rfl .here rfl ?_) rfl rfl
            refine i_op (a_call rfl rfl (fun s1 h1 => rHeight_s _ _ _ _ _ _ _ _ _ _ _ s1 h1.wf (by omega) (hR.ext hs h1.2.1) (hS.ext hs h1.2.1)) (fun v1 A1 q1 => ?_)) rfl rfl
            rcases q1 with ⟨hL, rfl, rfl⟩ | ⟨hL, hz, rfl, rfl⟩ | ⟨hL, hz, hd, rfl, rfl⟩ | ⟨hL, hz, hd, i3, f3, rfl, rfl⟩
            · exfalso; first | contradiction | omega
            · exfalso; first | contradiction | omega
            · refine i_op (a_mov rfl ?_) rfl rfl
              refine i_op (a_ext rfl rfl ?_) rfl rfl
              refine i_op (a_ext rfl rfl ?_) rfl rfl
              refine i_op (a_mov rfl ?_) rfl rfl
              refine i_op (a_mov rfl ?_) rfl rfl
              refine i_nil ?_
              refine then_n ?_
              refine r_seq ?_
              refine r_items ?_
              refine i_op (a_mov rfl ?_) rfl rfl
              refine i_op (a_mov rfl ?_) rfl rfl
              refine i_op (a_mov rfl ?_) rfl rfl
              refine i_op (a_mov rfl ?_) rfl rfl
              refine i_op (a_eql rfl rfl (fun h15 => ?_) (fun h15 => ?_)) rfl rfl
              · refine i_op (a_pick_t rfl rfl rfl ?_) rfl rfl
                refine i_op (a_mov rfl ?_) rfl rfl
                refine i_op (a_mov rfl ?_) rfl rfl
                refine i_op (a_mov rfl ?_) rfl rfl
                refine i_op (a_eql rfl rfl (fun h16 => ?_) (fun h16 => ?_)) rfl rfl
                · refine i_op (a_pick_t rfl rfl rfl ?_) rfl rfl
                  refine i_op (a_mov rfl ?_) rfl rfl
                  refine i_op (a_mov rfl ?_) rfl rfl
                  refine i_op (a_mov rfl ?_) rfl rfl
                  refine i_op (a_eql rfl rfl (fun _ => ?_) (fun h => absurd h (by decide))) rfl rfl
                  refine i_op (a_pick_t rfl rfl rfl ?_) rfl rfl
                  refine i_op (a_mov rfl ?_) rfl rfl
                  refine i_op (a_mov rfl ?_) rfl rfl
                  refine i_op (a_mov rfl ?_) rfl rfl
                  refine i_op (a_eql rfl rfl (fun _ => ?_) (fun h => absurd h (by decide))) rfl rfl
                  refine i_op (a_pick_t rfl rfl rfl ?_) rfl rfl
                  refine i_op (a_mov rfl ?_) rfl rfl
                  refine i_op (a_mov rfl ?_) rfl rfl
                  refine i_op (a_mov rfl ?_) rfl rfl
                  refine i_op (a_eql rfl rfl (fun _ => ?_) (fun h => absurd h (by decide))) rfl rfl
                  refine i_op (a_pick_t rfl rfl rfl ?_) rfl rfl
                  refine i_op (a_mov rfl ?_) rfl rfl
                  refine i_op (a_mov rfl ?_) rfl rfl
                  refine i_op (a_mov rfl ?_) rfl rfl
                  refine i_op (a_eql rfl rfl (fun _ => ?_) (fun h => absurd h (by decide))) rfl rfl
                  refine i_op (a_pick_t rfl rfl rfl ?_) rfl rfl
                  refine i_op (a_mov rfl ?_) rfl rfl
                  refine i_nil ?_
                  refine then_n ?_
                  refine r_ret ?_
                  first
                    | exact end1 rfl ⟨rfl, rfl⟩
                    | (exfalso; contradiction)
                    | (exfalso; omega)
                · refine i_op (a_pick_t rfl rfl rfl ?_) rfl rfl
                  refine i_op (a_mov rfl ?_) rfl rfl
                  refine i_no rfl rfl ?_
                  refine i_no rfl rfl ?_
                  refine i_no rfl rfl ?_
                  refine i_op (a_pick_f rfl rfl rfl ?_) rfl rfl
                  refine i_op (a_mov rfl ?_) rfl rfl
                  refine i_no rfl rfl ?_
                  refine i_no rfl rfl ?_
                  refine i_no rfl rfl ?_
                  refine i_op (a_pick_f rfl rfl rfl ?_) rfl rfl
                  refine i_op (a_mov rfl ?_) rfl rfl
                  refine i_no rfl rfl ?_
                  refine i_no rfl rfl ?_
                  refine i_no rfl rfl ?_
                  refine i_op (a_pick_f rfl rfl rfl ?_) rfl rfl
                  refine i_op (a_mov rfl ?_) rfl rfl
                  refine i_no rfl rfl ?_
                  refine i_no rfl rfl ?_
                  refine i_no rfl rfl ?_
                  refine i_op (a_pick_f rfl rfl rfl ?_) rfl rfl
                  refine i_op (a_mov rfl ?_) rfl rfl
                  refine i_nil ?_
                  refine then_n ?_
                  refine r_ret ?_
                  first
                    | exact end1 rfl ⟨rfl, rfl⟩
                    | (exfalso; contradiction)
                    | (exfalso; omega)
              · refine i_op (a_pick_t rfl rfl rfl ?_) rfl rfl
                refine i_op (a_mov rfl ?_) rfl rfl
                refine i_no rfl rfl ?_
                refine i_no rfl rfl ?_
                refine i_no rfl rfl ?_
                refine i_op (a_pick_f rfl rfl rfl ?_) rfl rfl
                refine i_op (a_mov rfl ?_) rfl rfl
                refine i_no rfl rfl ?_
                refine i_no rfl rfl ?_
                refine i_no rfl rfl ?_
                refine i_op (a_pick_f rfl rfl rfl ?_) rfl rfl
                refine i_op (a_mov rfl ?_) rfl rfl
                refine i_no rfl rfl ?_
                refine i_no rfl rfl ?_
                refine i_no rfl rfl ?_
                refine i_op (a_pick_f rfl rfl rfl ?_) rfl rfl
                refine i_op (a_mov rfl ?_) rfl rfl
                refine i_no rfl rfl ?_
                refine i_no rfl rfl ?_
                refine i_no rfl rfl ?_
                refine i_op (a_pick_f rfl rfl rfl ?_) rfl rfl
                refine i_op (a_mov rfl ?_) rfl rfl
                refine i_no rfl rfl ?_
                refine i_no rfl rfl ?_
                refine i_no rfl rfl ?_
                refine i_op (a_pick_f rfl rfl rfl ?_) rfl rfl
                refine i_op (a_mov rfl ?_) rfl rfl
                refine i_nil ?_
                refine then_n ?_
                refine r_ret ?_
                first
                  | exact end1 rfl ⟨rfl, rfl⟩
                  | (exfalso; contradiction)
                  | (exfalso; omega)
            · exfalso; first | contradiction | omega
          · exfalso; first | contradiction | omega
        · exfalso; first | contradiction | omega
      · refine i_op (a_mov rfl ?_) rfl rfl
        refine i_op (a_ext rfl rfl ?_) rfl rfl
        refine i_op (a_ext rfl rfl ?_) rfl rfl
        refine i_op (a_mov rfl ?_) rfl rfl
        refine i_op (a_mov rfl ?_) rfl rfl
        refine i_nil ?_
        refine then_n ?_
        refine r_seq ?_
        refine r_items ?_
        refine i_op (a_lda rfl (by decide) (.next .here) rfl ?_) rfl rfl
        refine i_op (a_iaa (j := 0) rfl rfl (by decide) (by decide) ?_) rfl rfl
        refine i_op (a_ld rfl .here rfl ?_) rfl rfl
        refine i_op (a_iaa (j := 1) rfl rfl (by decide) (by decide) ?_) rfl rfl
        refine i_op (a_ld rfl .here rfl ?_) rfl rfl
        refine i_op (a_call rfl rfl (fun s1 h1 => rExtra_s _ _ _ _ _ _ _ _ _ _ _ s1 h1.wf (by omega) (hR.ext hs h1.2.1) (hS.ext hs h1.2.1)) (fun v1 A1 q1 => ?_)) rfl rfl
        rcases q1 with ⟨hL, rfl, rfl⟩ | ⟨hL, hz, rfl, rfl⟩ | ⟨hL, hz, hd, rfl, rfl⟩ | ⟨hL, hz, hd, rfl, rfl⟩
        · exfalso; first | contradiction | omega
        · exfalso; first | contradiction | omega
        · exfalso; first | contradiction | omega
        · refine i_op (a_mov rfl ?_) rfl rfl
          refine i_op (a_ext rfl rfl ?_) rfl rfl
          refine i_op (a_ext rfl rfl ?_) rfl rfl
          refine i_op (a_mov rfl ?_) rfl rfl
          refine i_op (a_mov rfl ?_) rfl rfl
          refine i_nil ?_
          refine then_n ?_
          refine r_seq ?_
          refine r_items ?_
          refine i_op (a_lda rfl (by decide) (.next .here) rfl ?_) rfl rfl
          refine i_op (a_iaa (j := 0) rfl rfl (by decide) (by decide) ?_) rfl rfl
          refine i_op (a_ld rfl .here rfl ?_) rfl rfl
          refine i_op (a_iaa (j := 1) rfl rfl (by decide) (by decide) ?_) rfl rfl
          refine i_op (a_ld rfl .here rfl ?_) rfl rfl
          refine i_op (a_call rfl rfl (fun s1 h1 => Height_s _ _ _ _ _ _ _ _ _ _ _ s1 h1.wf (by omega) (hR.ext hs h1.2.1) (hS.ext hs h1.2.1)) (fun v1 A1 q1 => ?_)) rfl rfl
          rcases q1 with ⟨hL, rfl, rfl⟩ | ⟨hL, hz, rfl, rfl⟩ | ⟨hL, hz, hd, rfl, rfl⟩ | ⟨hL, hz, hd, i2, f2, rfl, rfl⟩
          · exfalso; first | contradiction | omega
          · exfalso; first | contradiction | omega
          · exfalso; first | contradiction | omega
          · obtain rfl := IsFst.uniq f0 f2
            refine i_op (a_mov rfl ?_) rfl rfl
            refine i_op (a_ext rfl rfl ?_) rfl rfl
            refine i_op (a_ext rfl rfl ?_) rfl rfl
            refine i_op (a_mov rfl ?_) rfl rfl
            refine i_op (a_mov rfl ?_) rfl rfl
            refine i_nil ?_
            refine then_n ?_
            refine r_seq ?_
            refine r_items ?_
            refine i_op (a_lda rfl (by decide) (.next .here) rfl ?_) rfl rfl
            refine i_op (a_iaa (j := 0) rfl rfl (by decide) (by decide) ?_) rfl rfl
            refine i_op (a_ld rfl .here rfl ?_) rfl rfl
            refine i_op (a_iaa (j := 1) rfl rfl (by decide) (by decide) ?_) rfl rfl
            refine i_op (a_ld rfl .here rfl ?_) rfl rfl
            refine i_op (a_call rfl rfl (fun s1 h1 => rHeight_s _ _ _ _ _ _ _ _ _ _ _ s1 h1.wf (by omega) (hR.ext hs h1.2.1) (hS.ext hs h1.2.1)) (fun v1 A1 q1 => ?_)) rfl rfl
            rcases q1 with ⟨hL, rfl, rfl⟩ | ⟨hL, hz, rfl, rfl⟩ | ⟨hL, hz, hd, rfl, rfl⟩ | ⟨hL, hz, hd, i3, f3, rfl, rfl⟩
            · exfalso; first | contradiction | omega
            · exfalso; first | contradiction | omega
            · exfalso; first | contradiction | omega
            · obtain rfl := IsFst.uniq f0 f3
              refine i_op (a_mov rfl ?_) rfl rfl
              refine i_op (a_ext rfl rfl ?_) rfl rfl
              refine i_op (a_ext rfl rfl ?_) rfl rfl
              refine i_op (a_mov rfl ?_) rfl rfl
              refine i_op (a_mov rfl ?_) rfl rfl
              refine i_nil ?_
              refine then_n ?_
              refine r_seq ?_
              refine r_items ?_
              refine i_op (a_mov rfl ?_) rfl rfl
              refine i_op (a_mov rfl ?_) rfl rfl
              refine i_op (a_mov rfl ?_) rfl rfl
              refine i_op (a_mov rfl ?_) rfl rfl
              refine i_op (a_eql rfl rfl (fun h21 => ?_) (fun h21 => ?_)) rfl rfl
              · refine i_op (a_pick_t rfl rfl rfl ?_) rfl rfl
                refine i_op (a_mov rfl ?_) rfl rfl
                refine i_op (a_mov rfl ?_) rfl rfl
                refine i_op (a_mov rfl ?_) rfl rfl
                refine i_op (a_eql rfl rfl (fun h22 => ?_) (fun h22 => ?_)) rfl rfl
                · refine i_op (a_pick_t rfl rfl rfl ?_) rfl rfl
                  refine i_op (a_mov rfl ?_) rfl rfl
                  refine i_op (a_mov rfl ?_) rfl rfl
                  refine i_op (a_mov rfl ?_) rfl rfl
                  refine i_op (a_eql rfl rfl (fun h23 => ?_) (fun h23 => ?_)) rfl rfl
                  · refine i_op (a_pick_t rfl rfl rfl ?_) rfl rfl
                    refine i_op (a_mov rfl ?_) rfl rfl
                    refine i_op (a_mov rfl ?_) rfl rfl
                    refine i_op (a_mov rfl ?_) rfl rfl
                    refine i_op (a_eql rfl rfl (fun _ => ?_) (fun h => absurd h (by decide))) rfl rfl
                    refine i_op (a_pick_t rfl rfl rfl ?_) rfl rfl
                    refine i_op (a_mov rfl ?_) rfl rfl
                    refine i_op (a_mov rfl ?_) rfl rfl
                    refine i_op (a_mov rfl ?_) rfl rfl
                    refine i_op (a_eql rfl rfl (fun h25 => ?_) (fun h25 => ?_)) rfl rfl
                    · refine i_op (a_pick_t rfl rfl rfl ?_) rfl rfl
                      refine i_op (a_mov rfl ?_) rfl rfl
                      refine i_op (a_mov rfl ?_) rfl rfl
                      refine i_op (a_mov rfl ?_) rfl rfl
                      refine i_op (a_eql rfl rfl (fun h26 => ?_) (fun h26 => ?_)) rfl rfl
                      · refine i_op (a_pick_t rfl rfl rfl ?_) rfl rfl
                        refine i_op (a_mov rfl ?_) rfl rfl
                        refine i_nil ?_
                        refine then_n ?_
                        refine r_ret ?_
                        first
                          | exact end1 rfl ⟨rfl, rfl⟩
                          | (exfalso; contradiction)
                          | (exfalso; omega)
                      · refine i_op (a_pick_t rfl rfl rfl ?_) rfl rfl
                        refine i_op (a_mov rfl ?_) rfl rfl
                        refine i_nil ?_
                        refine then_n ?_
                        refine r_ret ?_
                        first
                          | exact end1 rfl ⟨rfl, rfl⟩
                          | (exfalso; contradiction)
                          | (exfalso; omega)
                    · refine i_op (a_pick_t rfl rfl rfl ?_) rfl rfl
                      refine i_op (a_mov rfl ?_) rfl rfl
                      refine i_no rfl rfl ?_
                      refine i_no rfl rfl ?_
                      refine i_no rfl rfl ?_
                      refine i_op (a_pick_f rfl rfl rfl ?_) rfl rfl
                      refine i_op (a_mov rfl ?_) rfl rfl
                      refine i_nil ?_
                      refine then_n ?_
                      refine r_ret ?_
                      first
                        | exact end1 rfl ⟨rfl, rfl⟩
                        | (exfalso; contradiction)
                        | (exfalso; omega)
                  · refine i_op (a_pick_t rfl rfl rfl ?_) rfl rfl
                    refine i_op (a_mov rfl ?_) rfl rfl
                    refine i_no rfl rfl ?_
                    refine i_no rfl rfl ?_
                    refine i_no rfl rfl ?_
                    refine i_op (a_pick_f rfl rfl rfl ?_) rfl rfl
                    refine i_op (a_mov rfl ?_) rfl rfl
                    refine i_no rfl rfl ?_
                    refine i_no rfl rfl ?_
                    refine i_no rfl rfl ?_
                    refine i_op (a_pick_f rfl rfl rfl ?_) rfl rfl
                    refine i_op (a_mov rfl ?_) rfl rfl
                    refine i_no rfl rfl ?_
                    refine i_no rfl rfl ?_
                    refine i_no rfl rfl ?_
                    refine i_op (a_pick_f rfl rfl rfl ?_) rfl rfl
                    refine i_op (a_mov rfl ?_) rfl rfl
                    refine i_nil ?_
                    refine then_n ?_
                    refine r_ret ?_
                    first
                      | exact end1 rfl ⟨rfl, rfl⟩
                      | (exfalso; contradiction)
                      | (exfalso; omega)
                · refine i_op (a_pick_t rfl rfl rfl ?_) rfl rfl
                  refine i_op (a_mov rfl ?_) rfl rfl
                  refine i_no rfl rfl ?_
                  refine i_no rfl rfl ?_
                  refine i_no rfl rfl ?_
                  refine i_op (a_pick_f rfl rfl rfl ?_) rfl rfl
                  refine i_op (a_mov rfl ?_) rfl rfl
                  refine i_no rfl rfl ?_
                  refine i_no rfl rfl ?_
                  refine i_no rfl rfl ?_
                  refine i_op (a_pick_f rfl rfl rfl ?_) rfl rfl
                  refine i_op (a_mov rfl ?_) rfl rfl
                  refine i_no rfl rfl ?_
                  refine i_no rfl rfl ?_
                  refine i_no rfl rfl ?_
                  refine i_op (a_pick_f rfl rfl rfl ?_) rfl rfl
                  refine i_op (a_mov rfl ?_) rfl rfl
                  refine i_no rfl rfl ?_
                  refine i_no rfl rfl ?_
                  refine i_no rfl rfl ?_
                  refine i_op (a_pick_f rfl rfl rfl ?_) rfl rfl
                  refine i_op (a_mov rfl ?_) rfl rfl
                  refine i_nil ?_
                  refine then_n ?_
                  refine r_ret ?_
                  first
                    | exact end1 rfl ⟨rfl, rfl⟩
                    | (exfalso; contradiction)
                    | (exfalso; omega)
              · refine i_op (a_pick_t rfl rfl rfl ?_) rfl rfl
                refine i_op (a_mov rfl ?_) rfl rfl
                refine i_no rfl rfl ?_
                refine i_no rfl rfl ?_
                refine i_no rfl rfl ?_
                refine i_op (a_pick_f rfl rfl rfl ?_) rfl rfl
                refine i_op (a_mov rfl ?_) rfl rfl
                refine i_no rfl rfl ?_
                refine i_no rfl rfl ?_
                refine i_no rfl rfl ?_
                refine i_op (a_pick_f rfl rfl rfl ?_) rfl rfl
                refine i_op (a_mov rfl ?_) rfl rfl
                refine i_no rfl rfl ?_
                refine i_no rfl rfl ?_
                refine i_no rfl rfl ?_
                refine i_op (a_pick_f rfl rfl rfl ?_) rfl rfl
                refine i_op (a_mov rfl ?_) rfl rfl
                refine i_no rfl rfl ?_
                refine i_no rfl rfl ?_
                refine i_no rfl rfl ?_
                refine i_op (a_pick_f rfl rfl rfl ?_) rfl rfl
                refine i_op (a_mov rfl ?_) rfl rfl
                refine i_no rfl rfl ?_
                refine i_no rfl rfl ?_
                refine i_no rfl rfl ?_
                refine i_op (a_pick_f rfl rfl rfl ?_) rfl rfl
                refine i_op (a_mov rfl ?_) rfl rfl
                refine i_nil ?_
                refine then_n ?_
                refine r_ret ?_
                first
                  | exact end1 rfl ⟨rfl, rfl⟩
                  | (exfalso; contradiction)
                  | (exfalso; omega)

end
end Ev
end Go.Proofs.YtgbfnonfecpajaaGreat

/- What the rows of mark's laws let in. -/
namespace Go.Proofs.YtgbfnonfecpajaaGreat.Ev
open Go Go.RowKit Go.ChangeShapes Go.WideShapes Go.ChangeAt Go.Joins
set_option linter.unusedVariables false
noncomputable section
theorem int_range {H : Type} {enc : TypeId × Value → H} {W : World} : IntCells H Tryz.prog enc W 40 2 :=
  intCells_struct (ws := [1, 1]) Tryz.underlying40 (by kernel_rfl) (fun i f hf => by
    match i, hf with
    | 0, hf => cases hf; exact ⟨1, rfl, by kernel_rfl, rfl, intCells_int Tryz.underlying3⟩
    | 1, hf => cases hf; exact ⟨1, rfl, by kernel_rfl, rfl, intCells_int Tryz.underlying3⟩
    | n + 2, hf => simp at hf) rfl
theorem int_leg {H : Type} {enc : TypeId × Value → H} {W : World} : IntCells H Tryz.prog enc W 75 7 :=
  intCells_struct (ws := [1, 1, 1, 2, 2]) Tryz.underlying75 (by kernel_rfl) (fun i f hf => by
    match i, hf with
    | 0, hf => cases hf; exact ⟨1, rfl, by kernel_rfl, rfl, intCells_int Tryz.underlying3⟩
    | 1, hf => cases hf; exact ⟨1, rfl, by kernel_rfl, rfl, intCells_int Tryz.underlying3⟩
    | 2, hf => cases hf; exact ⟨1, rfl, by kernel_rfl, rfl, intCells_int Tryz.underlying3⟩
    | 3, hf => cases hf; exact ⟨2, rfl, by kernel_rfl, rfl, int_range⟩
    | 4, hf => cases hf; exact ⟨2, rfl, by kernel_rfl, rfl, int_range⟩
    | n + 5, hf => simp at hf) rfl
theorem int_fb {H : Type} {enc : TypeId × Value → H} {W : World} : IntCells H Tryz.prog enc W 71 2 :=
  intCells_struct (ws := [1, 1]) Tryz.underlying71 (by kernel_rfl) (fun i f hf => by
    match i, hf with
    | 0, hf => cases hf; exact ⟨1, rfl, by kernel_rfl, rfl, intCells_int Tryz.underlying3⟩
    | 1, hf => cases hf; exact ⟨1, rfl, by kernel_rfl, rfl, intCells_int Tryz.underlying3⟩
    | n + 2, hf => simp at hf) rfl
theorem int_season {H : Type} {enc : TypeId × Value → H} {W : World} : IntCells H Tryz.prog enc W 73 4 :=
  intCells_struct (ws := [1, 1, 1, 1]) Tryz.underlying73 (by kernel_rfl) (fun i f hf => by
    match i, hf with
    | 0, hf => cases hf; exact ⟨1, rfl, by kernel_rfl, rfl, intCells_int Tryz.underlying3⟩
    | 1, hf => cases hf; exact ⟨1, rfl, by kernel_rfl, rfl, intCells_int Tryz.underlying3⟩
    | 2, hf => cases hf; exact ⟨1, rfl, by kernel_rfl, rfl, intCells_int Tryz.underlying3⟩
    | 3, hf => cases hf; exact ⟨1, rfl, by kernel_rfl, rfl, intCells_int Tryz.underlying3⟩
    | n + 4, hf => simp at hf) rfl
set_option maxRecDepth 100000 in
theorem int_two {H : Type} {enc : TypeId × Value → H} {W : World} : IntCells H Tryz.prog enc W 34 2 := by
  intro base fuel sp held cs x h
  obtain ⟨xs, m, _, _, hl, hxl, hxi⟩ := DataW.trod_array Tryz.underlying34 h
  have e3 : Tryz.prog.cellsOf 34 = 2 := by kernel_rfl
  have e4 : Tryz.prog.cellsOf 3 = 1 := by kernel_rfl
  rw [e3] at hl
  match cs, hl with
  | [c0, c1], _ =>
    have g0 := hxi 0 (by omega)
    have g1 := hxi 1 (by omega)
    rw [e4] at g0 g1
    match xs, hxl with
    | [y0, y1], _ =>
      obtain ⟨z0, q0, _, w0⟩ := DataW.trod_int Tryz.underlying3 (show DataW.trod enc Tryz.prog W base sp held m 3 [c0] = some y0 from g0)
      obtain ⟨z1, q1, _, w1⟩ := DataW.trod_int Tryz.underlying3 (show DataW.trod enc Tryz.prog W base sp held m 3 [c1] = some y1 from g1)
      simp at q0 q1
      subst q0; subst q1
      exact ⟨[z0, z1], rfl, rfl, fun z hz => by simp at hz; rcases hz with rfl | rfl <;> first | exact wf_I64 w0 | exact wf_I64 w1⟩
set_option maxRecDepth 100000 in
theorem open_range {H : Type} {enc : TypeId × Value → H} {W : World} {r : Reach} {b0 : Nat} {v : Value} {d : DataW H} {p : List MemPlace} (hv : Value.okWide Tryz.prog W r b0 40 v) (h : DataW.Trod enc Tryz.prog W 0 (fun _ => true) true 40 v d p) : ∃ z0 z1, v = .agg #[.int .i64 z0, .int .i64 z1] := by
  obtain ⟨fuel, hf⟩ := h
  simp only [Value.okWide, Tryz.underlying40] at hv
  obtain ⟨⟨l⟩, rfl, _⟩ := hv
  obtain ⟨zs, h1, h2, _⟩ := int_range hf
  match zs, h2 with
  | [z0, z1], _ => exact ⟨z0, z1, by have : l = [.int .i64 z0, .int .i64 z1] := h1; rw [this]⟩
set_option maxRecDepth 100000 in
theorem open_two {H : Type} {enc : TypeId × Value → H} {W : World} {r : Reach} {b0 : Nat} {v : Value} {d : DataW H} {p : List MemPlace} (hv : Value.okWide Tryz.prog W r b0 34 v) (h : DataW.Trod enc Tryz.prog W 0 (fun _ => true) true 34 v d p) : ∃ z0 z1, v = .agg #[.int .i64 z0, .int .i64 z1] := by
  obtain ⟨fuel, hf⟩ := h
  simp only [Value.okWide, Tryz.underlying34] at hv
  obtain ⟨⟨l⟩, rfl, _⟩ := hv
  obtain ⟨zs, h1, h2, _⟩ := int_two hf
  match zs, h2 with
  | [z0, z1], _ => exact ⟨z0, z1, by have : l = [.int .i64 z0, .int .i64 z1] := h1; rw [this]⟩
set_option maxRecDepth 100000 in
theorem open_route {H : Type} {enc : TypeId × Value → H} {W : World} {r : Reach} {b0 : Nat} {v : Value} {d : DataW H} {p : List MemPlace} (hv : Value.okWide Tryz.prog W r b0 28 v) (h : DataW.Trod enc Tryz.prog W 0 (fun _ => true) true 28 v d p) (hz : ∀ x ∈ DataW.weights Tryz.prog 28 d, x ≤ reachBytes) :
    ∃ a0 n0 c0 r0, v = .agg #[.slice a0 n0 c0] ∧ r0.length = n0 ∧ NiceS W a0 n0 c0 ∧ RowsE (wst W) 7 a0 r0 := by
  obtain ⟨fuel, hf⟩ := h
  simp only [Value.okWide, Tryz.underlying28] at hv
  obtain ⟨cs, rfl, hsz, ts, hts, _, hc⟩ := hv
  have e2 : Tryz.prog.cellTypes Tryz.prog.depth 28 = some [26] := by kernel_rfl
  rw [e2] at hts
  cases hts
  have e3 : Tryz.prog.cellsOf 28 = 1 := by kernel_rfl
  rw [e3] at hsz
  obtain ⟨l⟩ := cs
  match l, hsz with
  | [x0], _ =>
    have u0 : ∃ t, [26][0]? = some t ∧ Cell.okWide Tryz.prog W r b0 t x0 := by
      obtain ⟨t, h1, h2⟩ := hc 0 x0 rfl
      exact ⟨t, h1, h2⟩
    obtain ⟨t0, e0, w0⟩ := u0
    have : t0 = 26 := by simpa using e0.symm
    subst this
    obtain ⟨xs, m, _, hx, _, hlen, hfs⟩ := DataW.trod_struct Tryz.underlying28 hf
    have g0 : ∃ y, xs[0]? = some y ∧ DataW.trod enc Tryz.prog W 0 (fun _ => true) true m 26 [x0] = some y := by
      have hy : ∃ y, xs[0]? = some y := ⟨xs[0]'(by rw [hlen]; decide), List.getElem?_eq_getElem _⟩
      obtain ⟨y, hy⟩ := hy
      have h4 := hfs 0 _ rfl
      rw [hy] at h4
      have e4 : Tryz.prog.cellsOf 26 = 1 := by kernel_rfl
      exact ⟨y, hy, by simpa [e4, Value.cells] using h4⟩
    obtain ⟨y0, gy0, g0⟩ := g0
    obtain ⟨a0, n0, c0, rfl, hN0⟩ := cell_niceS Tryz.underlying26 w0
    obtain ⟨d0, p0⟩ := y0
    have hz0 : ∀ x ∈ DataW.weights Tryz.prog 26 d0, x ≤ reachBytes := fun x hx' => hz x (by
      have hd : d = .agg (xs.map (·.1)) := by simpa using congrArg Prod.fst hx
      rw [hd]
      simp only [DataW.weights, Tryz.underlying28]
      exact DataW.weights_mem_each (j := 0) (t := 26) rfl (by rw [List.getElem?_map, gy0]; rfl) x hx')
    obtain ⟨r0, f0, k0, _⟩ := rowsW (w := 7) (bytes := 56) Tryz.underlying26 (by kernel_rfl) (by decide) (by kernel_rfl) (by decide) int_leg hN0 g0 hz0
    exact ⟨a0, n0, c0, r0, rfl, f0, hN0, k0⟩
set_option maxRecDepth 100000 in
theorem open_lines {H : Type} {enc : TypeId × Value → H} {W : World} {r : Reach} {b0 : Nat} {v : Value} {d : DataW H} {p : List MemPlace} (hv : Value.okWide Tryz.prog W r b0 25 v) (h : DataW.Trod enc Tryz.prog W 0 (fun _ => true) true 25 v d p) (hz : ∀ x ∈ DataW.weights Tryz.prog 25 d, x ≤ reachBytes) :
    ∃ z0 z1 a2 n2 c2 r2 a3 n3 c3 r3, v = .agg #[.int .i64 z0, .int .i64 z1, .slice a2 n2 c2, .slice a3 n3 c3] ∧ r2.length = n2 ∧ NiceS W a2 n2 c2 ∧ RowsE (wst W) 2 a2 r2 ∧ r3.length = n3 ∧ NiceS W a3 n3 c3 ∧ RowsE (wst W) 4 a3 r3 := by
  obtain ⟨fuel, hf⟩ := h
  simp only [Value.okWide, Tryz.underlying25] at hv
  obtain ⟨cs, rfl, hsz, ts, hts, _, hc⟩ := hv
  have e2 : Tryz.prog.cellTypes Tryz.prog.depth 25 = some [3, 3, 22, 23] := by kernel_rfl
  rw [e2] at hts
  cases hts
  have e3 : Tryz.prog.cellsOf 25 = 4 := by kernel_rfl
  rw [e3] at hsz
  obtain ⟨l⟩ := cs
  match l, hsz with
  | [x0, x1, x2, x3], _ =>
    have u0 : ∃ t, [3, 3, 22, 23][0]? = some t ∧ Cell.okWide Tryz.prog W r b0 t x0 := by
      obtain ⟨t, h1, h2⟩ := hc 0 x0 rfl
      exact ⟨t, h1, h2⟩
    obtain ⟨t0, e0, w0⟩ := u0
    have : t0 = 3 := by simpa using e0.symm
    subst this
    have u1 : ∃ t, [3, 3, 22, 23][1]? = some t ∧ Cell.okWide Tryz.prog W r b0 t x1 := by
      obtain ⟨t, h1, h2⟩ := hc 1 x1 rfl
      exact ⟨t, h1, h2⟩
    obtain ⟨t1, e1, w1⟩ := u1
    have : t1 = 3 := by simpa using e1.symm
    subst this
    have u2 : ∃ t, [3, 3, 22, 23][2]? = some t ∧ Cell.okWide Tryz.prog W r b0 t x2 := by
      obtain ⟨t, h1, h2⟩ := hc 2 x2 rfl
      exact ⟨t, h1, h2⟩
    obtain ⟨t2, e2, w2⟩ := u2
    have : t2 = 22 := by simpa using e2.symm
    subst this
    have u3 : ∃ t, [3, 3, 22, 23][3]? = some t ∧ Cell.okWide Tryz.prog W r b0 t x3 := by
      obtain ⟨t, h1, h2⟩ := hc 3 x3 rfl
      exact ⟨t, h1, h2⟩
    obtain ⟨t3, e3, w3⟩ := u3
    have : t3 = 23 := by simpa using e3.symm
    subst this
    obtain ⟨xs, m, _, hx, _, hlen, hfs⟩ := DataW.trod_struct Tryz.underlying25 hf
    have g0 : ∃ y, xs[0]? = some y ∧ DataW.trod enc Tryz.prog W 0 (fun _ => true) true m 3 [x0] = some y := by
      have hy : ∃ y, xs[0]? = some y := ⟨xs[0]'(by rw [hlen]; decide), List.getElem?_eq_getElem _⟩
      obtain ⟨y, hy⟩ := hy
      have h4 := hfs 0 _ rfl
      rw [hy] at h4
      have e4 : Tryz.prog.cellsOf 3 = 1 := by kernel_rfl
      exact ⟨y, hy, by simpa [e4, Value.cells] using h4⟩
    obtain ⟨y0, gy0, g0⟩ := g0
    obtain ⟨l0, q0, ql0, _⟩ := intCells_int (P := Tryz.prog) Tryz.underlying3 g0
    obtain ⟨z0, rfl⟩ : ∃ z, l0 = [z] := by
      match l0, ql0 with
      | [z], _ => exact ⟨z, rfl⟩
    simp at q0
    subst q0
    have g1 : ∃ y, xs[1]? = some y ∧ DataW.trod enc Tryz.prog W 0 (fun _ => true) true m 3 [x1] = some y := by
      have hy : ∃ y, xs[1]? = some y := ⟨xs[1]'(by rw [hlen]; decide), List.getElem?_eq_getElem _⟩
      obtain ⟨y, hy⟩ := hy
      have h4 := hfs 1 _ rfl
      rw [hy] at h4
      have e4 : Tryz.prog.cellsOf 3 = 1 := by kernel_rfl
      exact ⟨y, hy, by simpa [e4, Value.cells] using h4⟩
    obtain ⟨y1, gy1, g1⟩ := g1
    obtain ⟨l1, q1, ql1, _⟩ := intCells_int (P := Tryz.prog) Tryz.underlying3 g1
    obtain ⟨z1, rfl⟩ : ∃ z, l1 = [z] := by
      match l1, ql1 with
      | [z], _ => exact ⟨z, rfl⟩
    simp at q1
    subst q1
    have g2 : ∃ y, xs[2]? = some y ∧ DataW.trod enc Tryz.prog W 0 (fun _ => true) true m 22 [x2] = some y := by
      have hy : ∃ y, xs[2]? = some y := ⟨xs[2]'(by rw [hlen]; decide), List.getElem?_eq_getElem _⟩
      obtain ⟨y, hy⟩ := hy
      have h4 := hfs 2 _ rfl
      rw [hy] at h4
      have e4 : Tryz.prog.cellsOf 22 = 1 := by kernel_rfl
      exact ⟨y, hy, by simpa [e4, Value.cells] using h4⟩
    obtain ⟨y2, gy2, g2⟩ := g2
    obtain ⟨a2, n2, c2, rfl, hN2⟩ := cell_niceS Tryz.underlying22 w2
    obtain ⟨d2, p2⟩ := y2
    have hz2 : ∀ x ∈ DataW.weights Tryz.prog 22 d2, x ≤ reachBytes := fun x hx' => hz x (by
      have hd : d = .agg (xs.map (·.1)) := by simpa using congrArg Prod.fst hx
      rw [hd]
      simp only [DataW.weights, Tryz.underlying25]
      exact DataW.weights_mem_each (j := 2) (t := 22) rfl (by rw [List.getElem?_map, gy2]; rfl) x hx')
    obtain ⟨r2, f2, k2, _⟩ := rowsW (w := 2) (bytes := 16) Tryz.underlying22 (by kernel_rfl) (by decide) (by kernel_rfl) (by decide) int_fb hN2 g2 hz2
    have g3 : ∃ y, xs[3]? = some y ∧ DataW.trod enc Tryz.prog W 0 (fun _ => true) true m 23 [x3] = some y := by
      have hy : ∃ y, xs[3]? = some y := ⟨xs[3]'(by rw [hlen]; decide), List.getElem?_eq_getElem _⟩
      obtain ⟨y, hy⟩ := hy
      have h4 := hfs 3 _ rfl
      rw [hy] at h4
      have e4 : Tryz.prog.cellsOf 23 = 1 := by kernel_rfl
      exact ⟨y, hy, by simpa [e4, Value.cells] using h4⟩
    obtain ⟨y3, gy3, g3⟩ := g3
    obtain ⟨a3, n3, c3, rfl, hN3⟩ := cell_niceS Tryz.underlying23 w3
    obtain ⟨d3, p3⟩ := y3
    have hz3 : ∀ x ∈ DataW.weights Tryz.prog 23 d3, x ≤ reachBytes := fun x hx' => hz x (by
      have hd : d = .agg (xs.map (·.1)) := by simpa using congrArg Prod.fst hx
      rw [hd]
      simp only [DataW.weights, Tryz.underlying25]
      exact DataW.weights_mem_each (j := 3) (t := 23) rfl (by rw [List.getElem?_map, gy3]; rfl) x hx')
    obtain ⟨r3, f3, k3, _⟩ := rowsW (w := 4) (bytes := 32) Tryz.underlying23 (by kernel_rfl) (by decide) (by kernel_rfl) (by decide) int_season hN3 g3 hz3
    exact ⟨z0, z1, a2, n2, c2, r2, a3, n3, c3, r3, rfl, f2, hN2, k2, f3, hN3, k3⟩
end
end Go.Proofs.YtgbfnonfecpajaaGreat.Ev
