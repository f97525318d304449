/- The program's function FormClaims, called with any arguments that the row allows, returns true, ends in any run, and changes nothing that was there before the call. Conditions: those of the row itself (the machine of the checked program), and no other. -/
import Derived.Test.YtjkdkpckjgaplaaGreatRows
import Derived.Test.YtjkdkpckjgaplaaGreatZl19
import Derived.WalkKit
import Derived.ProofKit
import Derived.OpenShut
import Derived.ShutString
import Derived.ChangeOld
import Derived.Below
import Derived.Lib.SmallJoins
set_option linter.unusedVariables false
set_option linter.unusedSimpArgs false
namespace Go.Proofs.YtjkdkpckjgaplaaGreat.formClaims
open Go.ChangeShapes Go.WideShapes Go.ChangeAt Go.RowKit
open Go.ChangeMaps (open_string shut_string)
set_option linter.unusedVariables false
open Go.Joins
open Go.Proofs.YtjkdkpckjgaplaaGreat.Ev (NiceS RowsE I64)

theorem own:ownKnob Tryz.prog.godebug=none:=kR
theorem laidOut:laidOutB Tryz.prog=true:=kR

theorem law_w(W:World)(a1:Option Addr)(n1 c1:Nat)(y1:List (List Int))(a2:Option Addr)(n2 c2:Nat)(qs:List (List Int))(a3:Option Addr)(n3 c3:Nat)(ts:List (List Int))(a4:Option Addr)(n4 c4:Nat)(y4:List (List Int))(g0 g1 g2 wk ws ww:Int)(hi:Bool)(nu pb:Int)(aU:Option Addr)(nU cU:Nat)(us:List (List Int))
    (hn1:y1.length=n1) (hN1:NiceS W a1 n1 c1) (hR1:RowsE (Ev.Bk W) 1 a1 y1) (hn2:qs.length=n2) (hN2:NiceS W a2 n2 c2) (hR2:RowsE (Ev.Bk W) 5 a2 qs) (hn3:ts.length=n3) (hN3:NiceS W a3 n3 c3) (hR3:RowsE (Ev.Bk W) 4 a3 ts) (hn4:y4.length=n4) (hN4:NiceS W a4 n4 c4) (hR4:RowsE (Ev.Bk W) 1 a4 y4) (hg0:Ev.I64 g0) (hg1:Ev.I64 g1) (hg2:Ev.I64 g2) (hnU:us.length=nU) (hNU:NiceS W aU nU cU) (hRU:RowsE (Ev.Bk W) 2 aU us) :
    Calls Tryz.prog 4 #[.agg #[.slice a1 n1 c1,.slice a2 n2 c2,.slice a3 n3 c3,.slice a4 n4 c4,.int .i64 g0,.int .i64 g1,.int .i64 g2],.agg #[.int .i64 wk,.int .i64 ws,.int .i64 ww,.bool hi,.int .i64 nu,.int .i64 pb,.slice aU nU cU]] W fun e w'=>e = .returned (.bool true)∧Below W.heap.size W w':=by
  obtain⟨l1,hl1,e1⟩:∃l,Ev.aN (Ev.Bk W) a1 l∧l.length=n1:=⟨_,Ev.HA hR1,by rw[List.length_map];exact hn1⟩
  obtain⟨l4,hl4,e4⟩:∃l,Ev.aN (Ev.Bk W) a4 l∧l.length=n4:=⟨_,Ev.HA hR4,by rw[List.length_map];exact hn4⟩
  subst e1;subst e4;subst hn2;subst hn3;subst hnU
  exact Ev.Ls Ev.Aw (Ev.Lr (c:=_) Ev.Ja R8) (Ev.C0 28147497671065600 a1 a2 a3 a4 c1 c2 c3 c4 l1 qs ts l4 g0 g1 g2 wk ws ww hi nu aU cU us pb (Ev.Bk W) (Ev.RH W) oM hl1 hR2 hR3 hl4 hg0 hg1 hg2 hRU)
    (Ev.LR.cons (Ev.VR.agg (Ev.LR.cons hN1.vr (Ev.LR.cons hN2.vr (Ev.LR.cons hN3.vr (Ev.LR.cons hN4.vr (Ev.LR.cons (Ev.VR.int _ _) (Ev.LR.cons (Ev.VR.int _ _) (Ev.LR.cons (Ev.VR.int _ _) Ev.LR.nil)))))))) (Ev.LR.cons (Ev.VR.agg (Ev.LR.cons (Ev.VR.int _ _) (Ev.LR.cons (Ev.VR.int _ _) (Ev.LR.cons (Ev.VR.int _ _) (Ev.LR.cons (Ev.VR.flat _ rfl) (Ev.LR.cons (Ev.VR.int _ _) (Ev.LR.cons (Ev.VR.int _ _) (Ev.LR.cons hNU.vr Ev.LR.nil)))))))) Ev.LR.nil))

set_option maxRecDepth 100000 in
theorem lifted(os:Os)(started:os.Started)(H:Type)(enc:TypeId×Value→H) :
    ReturnsInHanded {} Tryz.checked os 4 .any (Rows.formClaimsSpec.pre6 enc Tryz.prog Tryz.f4 Rows.formClaimsRow.domain false) (Rows.formClaimsSpec.post enc Tryz.prog Tryz.f4 false true false false):=by
  refine returnsInHanded_of_change_sized (C:=Tryz.checked) own started kR Tryz.func4
    (ChangeSpec.witness6 (enc:=enc) (C:=Tryz.checked) false ⟨#[],#[.agg #[.slice none 0 0,.slice none 0 0,.slice none 0 0,.slice none 0 0,.int .i64 0,.int .i64 0,.int .i64 0],.agg #[.int .i64 0,.int .i64 0,.int .i64 0,.bool false,.int .i64 0,.int .i64 0,.slice none 0 0]],[]⟩ 8 kR kR kR kR) ?_
  intro W base args ds gs before hval0 hW hcnd hsz0 _
  have hval:∀(j:Nat) t v,Tryz.f4.params[j]? = some t→args[j]? = some v→Value.okWide Tryz.prog W .any base t v:=hval0
  have hsz:(DataW.weightsEach Tryz.prog (Tryz.f4.params.toList++Rows.formClaimsSpec.plain.varTypes Tryz.prog) (ds++gs)).all (·≤reachBytes)=true:=hsz0
  have hW':=hW
  obtain⟨p,q,hA0,hV,rfl,hfz,hnd⟩:=hW
  have hA:DataW.TrodAll enc Tryz.prog W 0 (fun _=>true) true Tryz.f4.params.toList args.toList ds p:=hA0
  rw[Tryz.params4] at hA hval hsz
  obtain⟨v0,vs0,d0,ds0,p0,q0,hargs,rfl,rfl,h0,r0⟩:=trodAll_cons hA
  obtain⟨v1,vs1,d1,ds1,p1,q1,rfl,rfl,rfl,h1,r1⟩:=trodAll_cons r0
  obtain⟨rfl,rfl,rfl⟩:=trodAll_nil r1
  obtain rfl:args = #[v0,v1]:=by cases args;simp_all
  obtain⟨rfl,rfl⟩:=trodVars_none hV
  have k0:=h0;have k1:=h1
  have lt0:∀x∈p0,x.block<W.heap.size:=by obtain⟨m,hm⟩:=k0;exact DataW.trod_lt m _ _ _ hm
  have lt1:∀x∈p1,x.block<W.heap.size:=by obtain⟨m,hm⟩:=k1;exact DataW.trod_lt m _ _ _ hm
  obtain⟨a1,n1,c1,y1,a2,n2,c2,y2,a3,n3,c3,y3,a4,n4,c4,y4,g0,g1,g2,rfl,hn1,hN1,hR1,hn2,hN2,hR2,hn3,hN3,hR3,hn4,hN4,hR4,hg0,hg1,hg2⟩:=Ev.Ig (hval 0 27 v0 rfl rfl) h0 (Ev.xV hsz (j:=0) rfl rfl)
  obtain⟨wk,ws,ww,hi,nu,pb,aU,nU,cU,us,rfl,hnU,hNU,hRU⟩:=Ev.Fh (hval 1 64 v1 rfl rfl) h1 (Ev.xV hsz (j:=1) rfl rfl)
  clear hA0 hval0
  refine(law_w W a1 n1 c1 y1 a2 n2 c2 y2 a3 n3 c3 y3 a4 n4 c4 y4 g0 g1 g2 wk ws ww hi nu pb aU nU cU us hn1 hN1 hR1 hn2 hN2 hR2 hn3 hN3 hR3 hn4 hN4 hR4 hg0 hg1 hg2 hnU hNU hRU).mono fun e W' ⟨he,bel⟩=>?_
  subst he
  exact⟨_,rfl,_,_,_,[],_,[],hW',trodAll_mk1 (shut_bool Tryz.underlying4 _),(trodAll_cons_mk (Below.trod laidOut kR (of_decide_eq_true kR) k0 bel lt0) (trodAll_cons_mk (Below.trod laidOut kR (of_decide_eq_true kR) k1 bel lt1) trodAll_mk0)),rfl,bel.frame _,fun h=>by cases h⟩

theorem over:Rows.formClaimsRow.holds Tryz.pinned (OpenSpec.ofChange Rows.formClaimsSpec):=
  OpenClaim.holds_of_wide 4 Tryz.f4 rfl rfl rfl rfl rfl rfl rfl ⟨rfl,rfl,rfl,rfl,rfl⟩ rfl rfl rfl rfl rfl kR Tryz.func4 kR
    (of_decide_eq_true kR) (by unfold Func.isWrapper;first|(rw[if_pos (by decide +kernel)];kernel_rfl)|(rw[if_neg (by decide +kernel)];exact⟨rfl,rfl⟩))
    (fun os started H enc _=>lifted os started H enc)

theorem proved:Rows.FormClaimsSaid:=over
end Go.Proofs.YtjkdkpckjgaplaaGreat.formClaims
