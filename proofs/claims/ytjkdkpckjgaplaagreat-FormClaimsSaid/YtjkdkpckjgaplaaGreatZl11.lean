import Derived.Test.YtjkdkpckjgaplaaGreatZl10
set_option linter.unusedVariables false
set_option linter.unusedSimpArgs false
namespace Go.Proofs.YtjkdkpckjgaplaaGreat
open Go Go.RowKit
namespace Ev
variable{L:List (List Int)}{f:Nat->List (List Int)}{t:Nat}
def mI(a b m1 m2 y:Int):List (List Int):=[[a,b,m1,y],[b,a,m2,y]]
def uZ(r d:Int):Int:=min ((r*d+999).tdiv 1000) 20000
def acc(X:List (List Int))(f:Nat->List (List Int)):Nat->List (List Int)
 |0=>X
 |t+1=>acc X f t++f t
theorem qG{X L:List (List Int)}(h:f t=L):aT (acc X f (t+1))=aT (acc X f t)++aT L:=by
 show aT (acc X f t++f t)=_;rw[h,dY]
theorem tU{X:List (List Int)}(h:f t=[]):acc X f (t+1)=acc X f t:=by
 show acc X f t++f t=_;rw[h,List.append_nil]
theorem tV{X L:List (List Int)}(h:f t=L):(acc X f (t+1)).length=(acc X f t).length+L.length:=by
 show(acc X f t++f t).length=_;rw[h,List.length_append]
def L4(L:List (List Int)):Prop:=∀r∈L,r.length=4
theorem L4.nil:L4 []:=fun _ h=>(by cases h)
theorem L4.lm{a b m1 m2 y:Int}:L4 (mI a b m1 m2 y):=fun r h=>by
 rcases List.mem_cons.1 h with rfl|h
 ·rfl
 ·rw[List.mem_singleton.1 h];rfl
theorem L4.app{L M:List (List Int)}(h:L4 L)(k:L4 M):L4 (L++M):=fun r hr=>(List.mem_append.1 hr).elim (h r) (k r)
theorem L4.acc{X:List (List Int)}{f:Nat->List (List Int)}(hX:L4 X)(hf:∀k,L4 (f k)):∀t,L4 (acc X f t)
 |0=>hX
 |t+1=>(L4.acc hX hf t).app (hf t)
structure Sv where
 r:Int
 al:Int
 up:Int
 l1:List Int
 l2:List Int
 rs:List (List Int)
 cs:List (List Int)
namespace Sv
variable{i k:Nat}
variable(y:Sv)
def N:Nat:=y.l2.length*y.l1.length
def D:List (List Int):=dys y.rs
def M:Int:=(y.l1.length:Int)*(y.l2.length:Int)
def q1(k:Nat):List (List Int):=mI 0 ((k:Int)+1) 20000 0 y.r
def q2(k:Nat):List (List Int):=if ((k / y.l2.length:Nat):Int)+1<(y.l1.length:Int) then mI ((k:Int)+1) (1+(((k / y.l2.length:Nat):Int)+1)*(y.l2.length:Int)+((k % y.l2.length:Nat):Int)) (uZ y.al (y.l1.getD (k / y.l2.length+1) 0-y.l1.getD (k / y.l2.length) 0)) (uZ y.al (y.l1.getD (k / y.l2.length+1) 0-y.l1.getD (k / y.l2.length) 0)) y.r else []
def q3(k:Nat):List (List Int):=if ((k % y.l2.length:Nat):Int)+1<(y.l2.length:Int) then mI ((k:Int)+1) (1+((k / y.l2.length:Nat):Int)*(y.l2.length:Int)+(((k % y.l2.length:Nat):Int)+1)) (uZ y.up (y.l2.getD (k % y.l2.length+1) 0-y.l2.getD (k % y.l2.length) 0)) (uZ y.up (y.l2.getD (k % y.l2.length+1) 0-y.l2.getD (k % y.l2.length) 0)) y.r else []
def q4(k:Nat):List (List Int):=mI 0 (y.M+1+(k:Int)) 1000 1000 y.r
def q5(i k:Nat):List (List Int):=
 if (y.cs.getD i []).getD 1 0=(y.D.getD k []).getD 0 0/\((y.cs.getD i []).getD 2 0<=(y.D.getD k []).getD 1 0/\(y.D.getD k []).getD 1 0<=(y.cs.getD i []).getD 3 0) then mI 0 (y.M+1+(k:Int)) (-(y.cs.getD i []).getD 4 0) ((y.cs.getD i []).getD 5 0) ((y.cs.getD i []).getD 0 0) else []
def q6(k:Nat):List (List Int):=
 mI (y.M+1+(vU [(y.rs.getD k []).getD 5 0,(y.rs.getD k []).getD 6 0] y.D:Int)) (1+(y.rs.getD k []).getD 1 0*(y.l2.length:Int)+(y.rs.getD k []).getD 2 0) ((y.rs.getD k []).getD 3 0+(y.rs.getD k []).getD 4 0) ((y.rs.getD k []).getD 4 0-(y.rs.getD k []).getD 3 0) ((y.rs.getD k []).getD 0 0)
def b1:List (List Int):=acc [] y.q1 y.N
def b2:List (List Int):=acc y.b1 y.q2 y.N
def b3:List (List Int):=acc y.b2 y.q3 y.N
def b4:List (List Int):=acc y.b3 y.q4 y.D.length
def b5:Nat->List (List Int)
 |0=>y.b4
 |i+1=>acc (b5 i) (y.q5 i) y.D.length
def b6:List (List Int):=acc (y.b5 y.cs.length) y.q6 y.rs.length
theorem L1(k:Nat):L4 (y.q1 k):=L4.lm
theorem L2(k:Nat):L4 (y.q2 k):=by unfold q2;split;exact L4.lm;exact L4.nil
theorem L3(k:Nat):L4 (y.q3 k):=by unfold q3;split;exact L4.lm;exact L4.nil
theorem L5(i k:Nat):L4 (y.q5 i k):=by unfold q5;split;exact L4.lm;exact L4.nil
theorem h1(t:Nat):L4 (acc [] y.q1 t):=L4.nil.acc y.L1 t
theorem h2(t:Nat):L4 (acc y.b1 y.q2 t):=(y.h1 _).acc y.L2 t
theorem h3(t:Nat):L4 (acc y.b2 y.q3 t):=(y.h2 _).acc y.L3 t
theorem h4(t:Nat):L4 (acc y.b3 y.q4 t):=(y.h3 _).acc (fun _=>L4.lm) t
theorem h5:∀i,L4 (y.b5 i)
 |0=>y.h4 _
 |i+1=>(h5 i).acc (y.L5 i) _
theorem h5i(i t:Nat):L4 (acc (y.b5 i) (y.q5 i) t):=(y.h5 i).acc (y.L5 i) t
theorem h6(t:Nat):L4 (acc (y.b5 y.cs.length) y.q6 t):=(y.h5 _).acc (fun _=>L4.lm) t
variable{y}
theorem q2_yes(hk:k<y.l2.length)(h:(i:Int)+1<(y.l1.length:Int)):y.q2 (y.l2.length*i+k)=mI (((y.l2.length*i+k:Nat):Int)+1) (1+((i:Int)+1)*(y.l2.length:Int)+(k:Int)) (uZ y.al (y.l1.getD (i+1) 0-y.l1.getD i 0)) (uZ y.al (y.l1.getD (i+1) 0-y.l1.getD i 0)) y.r:=by
 unfold q2;rw[Nat.mul_add_div oM,Nat.mul_add_mod,Nat.div_eq_of_lt hk,Nat.mod_eq_of_lt hk,Nat.add_zero,if_pos h]
theorem q2_no(hk:k<y.l2.length)(h:¬(i:Int)+1<(y.l1.length:Int)):y.q2 (y.l2.length*i+k)=[]:=by
 unfold q2;rw[Nat.mul_add_div oM,Nat.mul_add_mod,Nat.div_eq_of_lt hk,Nat.mod_eq_of_lt hk,Nat.add_zero,if_neg h]
theorem q3_yes(hk:k<y.l2.length)(h:(k:Int)+1<(y.l2.length:Int)):y.q3 (y.l2.length*i+k)=mI (((y.l2.length*i+k:Nat):Int)+1) (1+(i:Int)*(y.l2.length:Int)+((k:Int)+1)) (uZ y.up (y.l2.getD (k+1) 0-y.l2.getD k 0)) (uZ y.up (y.l2.getD (k+1) 0-y.l2.getD k 0)) y.r:=by
 unfold q3;rw[Nat.mul_add_div oM,Nat.mul_add_mod,Nat.div_eq_of_lt hk,Nat.mod_eq_of_lt hk,Nat.add_zero,if_pos h]
theorem q3_no(hk:k<y.l2.length)(h:¬(k:Int)+1<(y.l2.length:Int)):y.q3 (y.l2.length*i+k)=[]:=by
 unfold q3;rw[Nat.mul_add_div oM,Nat.mul_add_mod,Nat.div_eq_of_lt hk,Nat.mod_eq_of_lt hk,Nat.add_zero,if_neg h]
theorem getD_of{L:List (List Int)}{x:List Int}(h:L[k]? = some x):L.getD k []=x:=by rw[List.getD_eq_getElem?_getD,h];rfl
theorem q5_yes{z0 z1 z2 z3 z4 z5 p q:Int}(hz:y.cs[i]? = some [z0,z1,z2,z3,z4,z5])(hx:y.D[k]? = some [p,q])(h:z1=p/\z2<=q/\q<=z3):y.q5 i k=mI 0 (y.M+1+(k:Int)) (-z4) z5 z0:=by
 unfold q5;rw[getD_of hz,getD_of hx];exact if_pos h
theorem q5_no{z0 z1 z2 z3 z4 z5 p q:Int}(hz:y.cs[i]? = some [z0,z1,z2,z3,z4,z5])(hx:y.D[k]? = some [p,q])(h:¬(z1=p/\z2<=q/\q<=z3)):y.q5 i k=[]:=by
 unfold q5;rw[getD_of hz,getD_of hx];exact if_neg h
theorem q6_at{x0 x1 x2 x3 x4 x5 x6:Int}(hx:y.rs[k]? = some [x0,x1,x2,x3,x4,x5,x6]):y.q6 k=mI (y.M+1+(vU [x5,x6] y.D:Int)) (1+x1*(y.l2.length:Int)+x2) (x3+x4) (x4-x3) x0:=by
 unfold q6;rw[getD_of hx];rfl
end Sv
theorem G8{a:Int}(h:0<=a/\a<9223372036854775808):-9223372036854775808<=a.tdiv 1000/\a.tdiv 1000<9223372036854775808:=by
 rw[Int.tdiv_eq_ediv_of_nonneg h.1];omega
theorem E5{x y:Int}(hx:0<=x/\x<=100000)(hy:0<=y/\y<=100000):0<=x*y/\x*y<=10000000000:=
 ⟨Int.mul_nonneg hx.1 hy.1,by have:=Int.mul_le_mul hx.2 hy.2 hy.1 dE;omega⟩
theorem gA{x y:Int}(hx:0<=x/\x<=100)(hy:0<=y/\y<=100):0<=x*y/\x*y<=10000:=
 ⟨Int.mul_nonneg hx.1 hy.1,by have:=Int.mul_le_mul hx.2 hy.2 hy.1 dE;omega⟩
theorem iY{x y:Nat}(hx:x<=9)(hy:y<=9):x*y<=81:=Nat.mul_le_mul hx hy
theorem Obj.whole{s:St}{b e:Nat}{op:Bool}{l:List Value}(h:Obj s b e op l):pK s b 0 l:=h.ats (jP Ay).2
/-! Each tape day stands once. -/
theorem nZ{x0 x1 x2 x3 x4 x5 x6:Int}{rs:List (List Int)}{k:Nat}(h:rs[k]? = some [x0,x1,x2,x3,x4,x5,x6]):[x5,x6]∈dys rs:=by
 have h1:[x5,x6]∈dys (rs.take (k+1)):=by
  rw[AI h];split
  ·assumption
  ·simp
 have key:∀(M D:List (List Int)),[x5,x6]∈D->[x5,x6]∈M.foldl gL D:=by
  intro M
  induction M with
  |nil=>intro D h;exact h
  |cons r M ih=>
   intro D h;refine ih _ ?_;unfold gL;split
   ·exact h
   ·exact List.mem_append_left _ h
 have h2:dys rs=(rs.drop (k+1)).foldl gL (dys (rs.take (k+1))):=by
  unfold dys;rw[<-List.foldl_append,List.take_append_drop]
 rw[h2];exact key _ _ h1
theorem BR{rs:List (List Int)}:(dys rs).Nodup:=by
 have key:∀(M D:List (List Int)),D.Nodup->(M.foldl gL D).Nodup:=by
  intro M
  induction M with
  |nil=>intro D h;exact h
  |cons r M ih=>
   intro D h;refine ih _ ?_;unfold gL;split
   ·exact h
   ·rename_i hn
    refine List.nodup_append.2 ⟨h,sM,fun a ha b hb=>?_⟩;rw[List.mem_singleton.1 hb];rintro rfl;exact hn ha
 exact key rs [] List.nodup_nil
theorem E6{x:List Int}:∀{L:List (List Int)} {k:Nat},L.Nodup->L[k]? = some x->vU x L=k
 |[],k,_,h=>by simp at h
 |r::L,0,_,h=>by
  simp only[List.getElem?_cons_zero,Option.some.injEq] at h;unfold vU;rw[if_pos h]
 |r::L,k+1,hn,h=>by
  have h2:L[k]? = some x:=by simpa using h
  have h3:¬r=x:=fun e=>(List.nodup_cons.1 hn).1 (e ▸ List.mem_of_getElem? h2)
  unfold vU;rw[if_neg h3,E6 (List.nodup_cons.1 hn).2 h2]
section
variable{X:FuncId->List Value->St->(Value->St->Bool)->Bool}
theorem fL(n:Nat)(d r al up:Int)(a1 a2:Option Addr)(c1 c2:Nat)(l1 l2:List Int)(x y:Int)(s:St)(hs:Wf s)(hn:0<=n)(hl1:aN s a1 l1)(hl2:aN s a2 l2)(hm:l2.length<=9)(hx:0<=x/\x<=9)(hy:0<=y/\y<=9):bX Tryz.prog (bZ cB) X (n+40) 49 [.agg ⟨[.int .i64 d,.int .i64 r,.slice a1 l1.length c1,.slice a2 l2.length c2,.int .i64 al,.int .i64 up]⟩,.int .i64 x,.int .i64 y] s (fun v A=>v = .int .i64 (1+x*(l2.length:Int)+y)/\A=[]):=by
 refine enter GL rfl hs ?_;unfold Jb;have hlen1:=hl1.len;have hlen2:=hl2.len;have hq:=gA (x:=x) (y:=(l2.length:Int)) oM oM;refine rS (aZ J J J (fun b1=>(kM J (Q0 (rS (kM J (aH J (aL J .here rfl (aJ J hl2.spot (aV J J oM (aX J J oM (kM J (aX J J oM (kM J (Q0 (V2 ?_))))))))))))))));exact aO J ⟨rfl,rfl⟩
theorem mA(n:Nat)(d r al up:Int)(a1 a2:Option Addr)(c1 c2:Nat)(l1 l2:List Int)(x y:Int)(s:St)(hs:Wf s)(hn:0<=n)(hl1:aN s a1 l1)(hl2:aN s a2 l2)(hm:l2.length<=9)(hx:0<=x/\x<=9)(hy:0<=y/\y<=9):bX Tryz.prog (bZ cB) X (n+40) 47 [.agg ⟨[.int .i64 d,.int .i64 r,.slice a1 l1.length c1,.slice a2 l2.length c2,.int .i64 al,.int .i64 up]⟩,.int .i64 x,.int .i64 y] s (fun v A=>v = .int .i64 (1+x*(l2.length:Int)+y)/\A=[]):=by
 refine enter OU rfl hs ?_;unfold Nv;have hlen1:=hl1.len;have hlen2:=hl2.len;have hq:=gA (x:=x) (y:=(l2.length:Int)) oM oM;refine rS (aZ J J J (fun b1=>(kM J (Q0 (rS (kM J (aH J (aL J .here rfl (aJ J hl2.spot (aV J J oM (aX J J oM (kM J (aX J J oM (kM J (Q0 (V2 ?_))))))))))))))));exact aO J ⟨rfl,rfl⟩
theorem gP(n:Nat)(d r al up:Int)(a1 a2:Option Addr)(c1 c2:Nat)(l1 l2:List Int)(s:St)(hs:Wf s)(hn:0<=n)(hl1:aN s a1 l1)(hl2:aN s a2 l2)(hm:l1.length<=9/\l2.length<=9):bX Tryz.prog (bZ cB) X (n+40) 56 [.agg ⟨[.int .i64 d,.int .i64 r,.slice a1 l1.length c1,.slice a2 l2.length c2,.int .i64 al,.int .i64 up]⟩] s (fun v A=>v = .int .i64 ((l1.length:Int)*(l2.length:Int))/\A=[]):=by
 refine enter GM rfl hs ?_;unfold Jc;have hlen1:=hl1.len;have hlen2:=hl2.len;have hq:=gA (x:=(l1.length:Int)) (y:=(l2.length:Int)) oM oM;refine rS (aZ J J J (fun b1=>(kM J (Q0 (rS (aH J (aL J .here rfl (aJ J hl1.spot (aH J (aL J .here rfl (aJ J hl2.spot (aV J J oM (kM J (Q0 (V2 ?_)))))))))))))));exact aO J ⟨rfl,rfl⟩
theorem BS(n:Nat)(x y:Int)(s:St)(hs:Wf s)(hx:0<=x/\x<=100000)(hy:0<=y/\y<=100000):bX Tryz.prog (bZ cB) X (n+40) 105 [.int .i64 x,.int .i64 y] s (fun v A=>v = .int .i64 (uZ x y)/\A=[]):=by
 refine enter Km rfl hs ?_;unfold FV;have hq:=E5 hx hy;refine rS (kM J (Q0 (rS (kM J (kM J (aV J J oM (aX J J oM (kO (qR J J dE (G8 oM) (kO (qS J (kM J (Q0 (V2 ?_))))))))))))));exact aO J ⟨rfl,rfl⟩
theorem vA(n:Nat)(x y:Int)(s:St)(hs:Wf s)(hx:0<=x/\x<=100000)(hy:0<=y/\y<=100000):bX Tryz.prog (bZ cB) X (n+40) 137 [.int .i64 x,.int .i64 y] s (fun v A=>v = .int .i64 (uZ x y)/\A=[]):=by
 refine enter KG rfl hs ?_;unfold Gf;have hq:=E5 hx hy;refine rS (kM J (Q0 (rS (kM J (kM J (aV J J oM (aX J J oM (kO (qR J J dE (G8 oM) (kO (qS J (kM J (Q0 (V2 ?_))))))))))))));exact aO J ⟨rfl,rfl⟩
theorem CD(n:Nat)(a c m y:Int)(s:St)(hs:Wf s):bX Tryz.prog (bZ cB) X (n+40) 104 [.int .i64 a,.int .i64 c,.int .i64 m,.int .i64 y] s (fun v A=>∃b,v = .slice (some ⟨b,0,none⟩) 2 2/\A=[.row b 107 false (aT (mI a c m m y))]):=by
 refine enter Kl rfl hs ?_;unfold FS;refine rS (kM J (Q0 (rS (kM J (kM J (kM J (kM J (eG J J (kM J (kM J (kM J (kM J (eG J J (kO (bF J J J (fun b1=>(kM J (Q0 (V2 ?_)))))))))))))))))));exact gH J (.q .slnil) ⟨b1,rfl,rfl⟩
theorem Pw(n:Nat)(z0 z1 z2 z3 z4 z5 dt de f:Int)(s:St)(hs:Wf s)(h4:-1000<=z4/\z4<=1000):bX Tryz.prog (bZ cB) X (n+60) 106 [.agg ⟨[.int .i64 z0,.int .i64 z1,.int .i64 z2,.int .i64 z3,.int .i64 z4,.int .i64 z5]⟩,.agg ⟨[.int .i64 dt,.int .i64 de]⟩,.int .i64 f] s (fun v A=>(¬(z1=dt/\z2<=de/\de<=z3)/\v = .slice none 0 0/\A=[])∨((z1=dt/\z2<=de/\de<=z3)/\∃b,v = .slice (some ⟨b,0,none⟩) 2 2/\A=[.row b 107 false (aT (mI 0 f (-z4) z5 z0))])):=by
 refine enter Kn rfl hs ?_;unfold FW;refine rS (aZ J J J (fun b1=>(aZ J J J (fun b2=>(kM J (Q0 (rQ (rS (aH J (aL J .h1 J (aH J (aL J .here rfl (kO (V3 J J (fun h3=>?_) (fun h3=>?_)))))))))))))))
 ·refine kM J (V0 (V0 (V0 (V0 (V0 (cA J J J (kM J (V0 (V0 (V0 (V0 (V0 (cA J J J (Q0 (Y0 J (rS (kM J (Q0 (V2 (W3 ?_))))))))))))))))))))
  exact gH J (List.nil_sublist _) (.inl ⟨oM,rfl,rfl⟩)
 ·refine kM J (kG (Q2 J (kG (Y1 J .here rfl (kG (Q2 J (kG (Y1 J .h1 J (kG (W5 J J (fun h4=>?_) (fun h4=>?_)))))))))))
  ·refine bK J J J (kM J (V0 (V0 (V0 (V0 (V0 (cA J J J (Q0 (Y0 J (rS (kM J (Q0 (V2 (W3 ?_))))))))))))))
   exact gH J (List.nil_sublist _) (.inl ⟨oM,rfl,rfl⟩)
  ·refine bK J J J (kM J (kG (Q2 J (kG (Y1 J .here rfl (kG (Q2 J (kG (Y1 J .h1 J (kG (dR J J (fun h5=>?_) (fun h5=>?_))))))))))))
   ·refine bK J J J (Q0 (Y0 J (rS (kM J (Q0 (V2 (W3 ?_)))))))
    exact gH J (List.nil_sublist _) (.inl ⟨oM,rfl,rfl⟩)
   ·refine bK J J J (Q0 (U0 J (Q1 (W0 (rS (kM J (aH J (aL J .h1 J (kO (xQ J oM (aH J (aL J .h1 J (eG J J (kM J (aH J (aL J .h1 J (aH J (aL J .h1 J (eG J J (kO (bF J J J (fun b6=>(kM J (Q0 (V2 ?_)))))))))))))))))))))))))
    exact gH J (.q (.cons _ (.cons _ .slnil))) (.inr ⟨oM,b6,rfl,rfl⟩)
theorem tX(n:Nat)(bs:Nat)(a1 a2:Option Addr)(c1 c2:Nat)(l1 l2:List Int)(s:St)(hs:Wf s)(hl1:aN s a1 l1)(hl2:aN s a2 l2)(hs2:At s bs 2 (.slice a1 l1.length c1))(hs3:At s bs 3 (.slice a2 l2.length c2))(hm:l1.length<=9/\l2.length<=9):bX Tryz.prog (bZ cB) X (n+60) 80 [.pointer (some ⟨bs,0,none⟩)] s (fun v A=>v = .int .i64 ((l1.length:Int)*(l2.length:Int))/\A=[]):=by
 refine enter Pi rfl hs ?_;unfold Om;have hlen1:=hl1.len;have hlen2:=hl2.len;have hq:=gA (x:=(l1.length:Int)) (y:=(l2.length:Int)) oM oM;refine rS (kM J (Q0 (rS (kM J (eT J (aH J (aH J (aH J (kO (W6 J aM (aJ J (by first|exact hl1.spot|exact hl2.spot) (kM J (eT J (aH J (aH J (aH J (kO (W6 J aM (aJ J (by first|exact hl1.spot|exact hl2.spot) (aV J J oM (kM J (Q0 (V2 ?_)))))))))))))))))))))));exact aO J ⟨rfl,rfl⟩
theorem E7(n:Nat)(bs:Nat)(a1 a2:Option Addr)(c1 c2:Nat)(l1 l2:List Int)(ad:Option Addr)(cd:Nat)(D:List (List Int))(dt de:Int)(s:St)(hs:Wf s)(hl1:aN s a1 l1)(hl2:aN s a2 l2)(hs2:At s bs 2 (.slice a1 l1.length c1))(hs3:At s bs 3 (.slice a2 l2.length c2))(hm:l1.length<=9/\l2.length<=9)(hn:281474976710656<=n)(h10:At s bs 10 (.slice ad D.length cd))(hL:RowsE s 2 ad D)(h60:D.length<=60):bX Tryz.prog (bZ cB) X (n+200) 85 [.pointer (some ⟨bs,0,none⟩),.agg ⟨[.int .i64 dt,.int .i64 de]⟩] s (fun v A=>v = .tuple #[.int .i64 (if [dt,de]∈D then (l1.length:Int)*(l2.length:Int)+1+(vU [dt,de] D:Int) else 0),.bool (decide ([dt,de]∈D))]/\A=[]):=by
 refine enter Pj rfl hs ?_;unfold Oo;have hlen1:=hl1.len;have hlen2:=hl2.len;have hq:=gA (x:=(l1.length:Int)) (y:=(l2.length:Int)) oM oM;refine rS (aZ J J J (fun b1=>(kM J (kM J (Q0 (rQ (rS (kM J (eT J (aH J (kO (W6 J aM (aJ J hL.spot (kM J (Q0 (W1 (U4 (fun j e A=>∃(k:Nat),e=[(0,.pointer (some ⟨bs,0,none⟩)),(3,.pointer (some ⟨b1,0,none⟩)),(11,.slice ad D.length cd),(12,.int .i64 (D.length:Int)),(13,.int .i64 (k:Int))]/\A=(.row b1 86 false ([.int .i64 dt,.int .i64 de])::[])/\j=D.length-k/\k<=D.length/\[dt,de]∉D.take k) 150 0 281474976710656 ?_ (j:=_) (env2:=_) (A2:=_) ?_ ?_ ?_ ?_ ⟨0,rfl,rfl,rfl,Nat.zero_le _,sM⟩)))))))))))))))))
 rotate_left
 ·omega
 ·omega
 ·exact lL
 ·exact(.q .slnil)
 rintro n hn j _ _ ⟨k,rfl,rfl,rfl,hk,hm5⟩;refine rS (dB J J (fun h2=>?_) (fun h2=>?_))
 ·obtain⟨q2,o2,p,q,ahL,hx,hat,i0,i1⟩:=hL.row2 (k:=k) oM
  have hat2:=hat;obtain⟨d0,d1,_⟩:=hat2;refine Q0 (rQ (Y0 J (Q1 (W0 (rQ (W1 (rS (kM J (kO (cM (j:=k) ahL rfl rfl (by first|rfl|omega) (by first|decide|omega) (kO (dU J dE aM J (aY J J (fun b3=>(kM J (kZ (Q6 J J .here rfl rfl rfl rfl (Q0 (rS (dD J dE .here rfl (dD J dE .h1 J (kO (Le J J ⟨RJ _ _ _ _,rfl⟩ (fun h4=>?_) (fun h4=>?_))))))))))))))))))))))))
  ·refine Q0 (Y0 J (rS (kM J (kO (aI J J (fun s1 h1=>tX _ _ _ _ _ _ _ _ s1 h1.wf (hl1.ext hs h1.2.1) (hl2.ext hs h1.2.1) (h1.at hs2) (h1.at hs3) hm) (aX J J oM (kM J (aX J J oM (kM J (kM J (Q0 (V2 (Y6 (W3 (W3 (Y6 (W3 (HV J J ⟨?_,rfl⟩))))))))))))))))))
   first
    |(have hmm:=E4 hm5 oM;rw[if_neg hmm,decide_eq_false hmm];done)
    |(have he:=of_decide_eq_true (by assumption:decide _=true);have hmm:[dt,de]∈D:=(he ▸ List.mem_of_getElem? hx);rw[if_pos hmm,decide_eq_true hmm,yX hm5 (he ▸ hx)];done)
  ·refine Q0 (U0 J (Q1 (Z1 (W0 (rI (aX J J oM (kM J (Q0 (W0 ?_)))))))))
   exact⟨rfl,_,_,_,(show D.length-(k+1)<D.length-k from oM),lL,(.cons _ (.q .slnil)),⟨k+1,rfl,rfl,rfl,oM,Cz hm5 hx (fun q=>absurd q.symm (of_decide_eq_false aM))⟩⟩
 ·refine Q0 (rQ (U0 J (Y4 (Z2 (Z2 (Q3 (W0 (rS (kM J (kM J (Q0 (V2 (HV J J ⟨?_,rfl⟩)))))))))))))
  first
   |(have hmm:=E4 hm5 oM;rw[if_neg hmm,decide_eq_false hmm];done)
   |(have he:=of_decide_eq_true (by assumption:decide _=true);have hmm:[dt,de]∈D:=(he ▸ List.mem_of_getElem? hx);rw[if_pos hmm,decide_eq_true hmm,yX hm5 (he ▸ hx)];done)
end
end Ev
end Go.Proofs.YtjkdkpckjgaplaaGreat
