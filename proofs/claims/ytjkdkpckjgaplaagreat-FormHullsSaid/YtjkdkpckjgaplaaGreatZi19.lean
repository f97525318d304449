import Derived.Test.YtjkdkpckjgaplaaGreatZi18
import Derived.Test.YtjkdkpckjgaplaaGreatZi10
import Derived.Test.YtjkdkpckjgaplaaGreatProg
import Derived.Test.YtjkdkpckjgaplaaGreatZi08
import Derived.KernelRfl
import Derived.Test.YtjkdkpckjgaplaaGreatZi17
import Derived.Test.YtjkdkpckjgaplaaGreatZi07
import Derived.Test.YtjkdkpckjgaplaaGreatZi05
set_option linter.unusedVariables false
set_option linter.unusedSimpArgs false
namespace Go.Proofs.YtjkdkpckjgaplaaGreat
open Go Go.RowKit
namespace Ev
variable{x:List Int}{n i k b m:Nat}{B:Nat->Nat}{f:Nat->List Int}
def uE(x:List Int)(n i k:Nat):List Int:=(List.range k).map fun y=>x.getD (n*i+y+1) 0
theorem Cr:ints (uE x n i (k+1))=ints (uE x n i k)++[.int .i64 (x.getD (n*i+k+1) 0)]:=by
 unfold uE ints;rw[List.range_succ];simp
theorem oI:(uE x n i k).length=k:=by simp[uE]
theorem M7(h:∀z∈x,-9223372036854775808<=z/\z<9223372036854775808):∀z∈uE x n i k,-9223372036854775808<=z/\z<9223372036854775808:=by
 intro z hz;obtain⟨y,_,rfl⟩:=List.mem_map.1 hz;rcases Nat.lt_or_ge (n*i+y+1) x.length with q|q
 ·exact h _ (D9 q)
 ·rw[mI q];decide
def wQ(B:Nat->Nat)(f:Nat->List Int):Nat->List Ob
 |0=>[]
 |i+1=> .row (B i) 3 true (ints (f i))::wQ B f i
def ET(B:Nat->Nat)(n:Nat):Nat->List Value
 |0=>[]
 |i+1=>ET B n i++[.slice (some ⟨B i,0,none⟩) n OPEN]
theorem tZ{B:Nat->Nat}{n:Nat}:∀{i:Nat},(ET B n i).length=i
 |0=>rfl
 |i+1=>by show(_++[_]).length=_;rw[List.length_append,tZ];rfl
theorem Dp{B:Nat->Nat}{n:Nat}:∀{i j:Nat},j<i->(ET B n i)[j]? = some (.slice (some ⟨B j,0,none⟩) n OPEN)
 |i+1,j,h=>by
  show(ET B n i++[_])[j]? = _;by_cases e:j=i
  ·subst e
   rw[List.getElem?_append_right (by rw[tZ];exact Nat.le_refl _),tZ,Nat.sub_self];rfl
  ·rw[List.getElem?_append_left (by rw[tZ];omega)]
   exact Dp oM
theorem tC{n i j:Nat}(h:j<i):(ET B n i)[0+j*1]? = some (.slice (some ⟨B j,0,none⟩) n OPEN):=by rw[Nat.zero_add,Nat.mul_one];exact Dp h
theorem Cs{B B':Nat->Nat}{n:Nat}:∀{i:Nat},(∀j,j<i->B j=B' j)->ET B n i=ET B' n i
 |0,_=>rfl
 |i+1,h=>by
  show ET B n i++_=ET B' n i++_;rw[Cs (fun j hj=>h j oM),h i oM]
theorem vB{B B':Nat->Nat}{f f':Nat->List Int}:∀{i:Nat},(∀j,j<i->B j=B' j)->(∀j,j<i->f j=f' j)->wQ B f i=wQ B' f' i
 |0,_,_=>rfl
 |i+1,h,k=>by
  show _::_=_::_;rw[h i oM,k i oM,vB (fun j hj=>h j oM) (fun j hj=>k j oM)]
theorem Rz:ET (mU B i b) n (i+1)=ET B n i++[.slice (some ⟨b,0,none⟩) n OPEN]:=by
 show ET (mU B i b) n i++[.slice (some ⟨mU B i b i,0,none⟩) n OPEN]=_;rw[show mU B i b i=b by simp[mU],Cs (B:=mU B i b) (B':=B) (fun j hj=>by simp[mU,show j≠i by omega])]
theorem M8:wQ (mU B i b) f (i+1) = .row b 3 true (ints (f i))::wQ B f i:=by
 show _::_=_;rw[show mU B i b i=b by simp[mU],vB (B:=mU B i b) (B':=B) (fun j hj=>by simp[mU,show j≠i by omega]) (fun _ _=>rfl)]
theorem lG{B:Nat->Nat}{f:Nat->List Int}{R:List Ob}:∀{i j:Nat},j<i->lK (wQ B f i++R) (B j) 3 true (ints (f j))
 |i+1,j,h=>by
  by_cases e:j=i
  ·subst e;exact .here
  ·exact .next (lG oM)
def Dq(f:Nat->List Int)(j:Nat)(l:List Int):Nat->List Int:=fun i=>if i=j then l else f i
theorem EK{B:Nat->Nat}{f:Nat->List Int}{R:List Ob}{l:List Int}:∀{i j:Nat},j<i->oS (wQ B f i++R) (B j) 3 true (ints (f j)) (ints l) (wQ B (Dq f j l) i++R)
 |i+1,j,h=>by
  by_cases e:j=i
  ·subst e
   have e1:wQ B (Dq f j l) j=wQ B f j:=vB (fun _ _=>rfl) (fun a ha=>if_neg oM);show oS (_::(_++R)) _ _ _ _ _ (.row (B j) 3 true (ints (Dq f j l j))::(wQ B (Dq f j l) j++R));rw[e1,show Dq f j l j=l from if_pos rfl];exact .here
  ·have e1:Dq f j l i=f i:=if_neg (fun q=>e q.symm)
   show oS (_::(_++R)) _ _ _ _ _ (.row (B i) 3 true (ints (Dq f j l i))::(_++R));rw[e1];exact .next (EK oM)
theorem Obj.segs{s:St}{b e:Nat}{op:Bool}{l:List Value}(h:Obj s b e op l):pR s b 0 l:=h.ats (gO wA).2
def M9(f:Nat->List Int)(m n:Nat):Prop:=∀j,j<m->(f j).length=n/\∀z∈f j,-9223372036854775808<=z/\z<9223372036854775808
theorem M9.set{m n j k:Nat}{v:Int}(h:M9 f m n)(hj:j<m)(hv:I64 v):M9 (Dq f j ((f j).set k v)) m n:=fun i hi=>by
 unfold Dq;by_cases e:i=j
 ·subst e
  rw[if_pos rfl];refine⟨by rw[List.length_set];exact(h i hi).1,fun z hz=>?_⟩;rcases List.mem_or_eq_of_mem_set hz with q|q
  ·exact(h i hi).2 z q
  ·rw[q];exact hv
 ·rw[if_neg e];exact h i hi
theorem IG{s0 s:St}{A:List Ob}{bt m n:Nat}(h1:iK s0 A s)(ho:lK A bt 22 true (ET B n m))(hs:∀j,j<m->lK A (B j) 3 true (ints (f j)))(hf:M9 f m n)(hm:m<=100)(hn:n<=100):pI s (some ⟨bt,0,none⟩) ((List.range m).map f):=by
 refine⟨fun b hb=>by cases hb;rfl,fun k hk=>?_,by rw[List.length_map,List.length_range];omega⟩;rw[List.length_map,List.length_range] at hk;have e:((List.range m).map f).getD k []=f k:=by rw[List.getD_eq_getElem?_getD,List.getElem?_map,List.getElem?_range hk];rfl
 obtain⟨hl,hz⟩:=hf k hk;rw[e,hl];refine⟨bt,0,some ⟨B k,0,none⟩,OPEN,rfl,?_,aN.own (h1.own (hs k hk)) hz oM⟩;have:=(h1.own ho).segs.get (Dp hk);rw[Nat.mul_one];exact this
theorem nU(h:∀z∈x,-9223372036854775808<=z/\z<9223372036854775808):M9 (fun i=>uE x n i n) m n:=fun j _=>⟨oI,M7 h⟩
theorem qD:((List.range m).map f).length=m:=by rw[List.length_map,List.length_range]
def VN(sp hl wh:Prop)[Decidable sp][Decidable hl][Decidable wh]:Int:=if sp then (if hl then (if wh then 0 else 33) else 34) else 30
def VP(sp hl wh:Prop)[Decidable sp][Decidable hl][Decidable wh](x:Int):Int:=if sp then (if hl then (if wh then x else 0) else 0) else 0
section
variable{X:FuncId->List Value->St->(Value->St->Bool)->Bool}
theorem TJ(n:Nat)(d r al up:Int)(a1 a2:Option Addr)(c1 c2:Nat)(l1 l2:List Int)(ax:Option Addr)(nx cx:Nat)(x:List Int)(s:St)(hs:Wf s)(hn:844424930131968<=n)(hl1:aN s a1 l1)(hl2:aN s a2 l2)(hnx:nx=x.length)(hX:aN s ax x)(hm1:2<=l1.length/\l1.length<=9)(hm2:2<=l2.length/\l2.length<=9)(hxl:l2.length*l1.length+1<=x.length):bS Tryz.prog (bX bZ) X (n+2600) 26 [.agg ⟨[.int .i64 d,.int .i64 r,.slice a1 l1.length c1,.slice a2 l2.length c2,.int .i64 al,.int .i64 up]⟩,.slice ax nx cx] s (fun v A=>∃bt B,v = .agg ⟨[.slice (some ⟨bt,0,none⟩) l1.length OPEN]⟩/\A = .row bt 22 true (ET B l2.length l1.length)::wQ B (fun i=>uE x l2.length i l2.length) l1.length):=by
 refine enter PX rfl hs ?_;unfold Oc;have hlen1:=hl1.len;have hlen2:=hl2.len;subst hnx;have hlenX:=hX.len;have hs9:=rD (x:=(l1.length:Int)) (y:=(l2.length:Int)) oM oM;have hN:((l2.length*l1.length:Nat):Int)=(l1.length:Int)*(l2.length:Int):=by rw[Int.natCast_mul,Int.mul_comm]
 refine rS (aZ J J J (fun b1=>(bA J J (fun b2=>(Q0 (rS (bA J J (fun b3=>(Q0 (rQ (rS (kM J (Q0 (W1 (bH (rQ (rS (kM J (aK J (aO J .h2 J (aJ J hl1.spot (cX J J (fun h4=>?_) (fun h4=>?_)))))))))))))))))))))))
 ·refine Q0 (Y0 J (Q1 (W0 (rQ (W1 (rS (kM J (Q0 (rQ (rS (kM J (Q0 (W1 (bH (rQ (rS (kM J (aK J (aO J .h2 J (aJ J hl2.spot (cX J J (fun h5=>?_) (fun h5=>?_))))))))))))))))))))))
  ·refine Q0 (Y0 J (Q1 (W0 (rQ (W1 (rI (kM J (kM J (cI J dE .h2 J (kM J (kM J (aI J J (fun s1 h1=>mH _ _ _ _ _ _ _ _ _ _ _ _ _ s1 h1.wf oM (hl1.ext hs h1.2.1) (hl2.ext hs h1.2.1) oM oM oM) ?_))))))))))))
   have hj9:=rL (n:=l2.length) (m:=l1.length) (i:=0) (y:=0) oM oM;rw[show(1+0*(l2.length:Int)+0:Int)=((l2.length*0+0+1:Nat):Int) from oM];refine kO (Q7 (j:=(l2.length*0+0+1)) hX rfl rfl oM (by first|rfl|omega) oM (fun _ _ a6=>(kO (W6 J (hX.at a6 oM) (bB J J J (fun b7=>(kO (fV J J (fH.own .here rfl sM) dE oM oM (fun b8=>(kM J (Q0 (Z1 (W0 (rI (kM J (aW J J dE (kM J (Q0 (W0 (U4 (fun j e A=>∃(k bl:Nat),e=[(1,.slice ax x.length cx),(2,.pointer (some ⟨b1,0,none⟩)),(4,.pointer (some ⟨b2,0,none⟩)),(5,.pointer (some ⟨b3,0,none⟩)),(6,.int .i64 ((0:Nat):Int)),(7,.slice (some ⟨bl,0,none⟩) k OPEN),(8,.int .i64 (k:Int))]/\A=(.row bl 3 true (ints (uE x l2.length 0 k))::(.row b3 69 false ([.slice none 0 0])::(.row b2 69 false ([.slice none 0 0])::(.row b1 33 false ([.int .i64 d,.int .i64 r,.slice a1 l1.length c1,.slice a2 l2.length c2,.int .i64 al,.int .i64 up])::[]))))/\j=l2.length-k/\k<=l2.length) 600 0 281474976710656 ?_ (j:=_) (env2:=_) (A2:=_) ?_ ?_ ?_ ?_ ⟨1,b8,rfl,rfl,rfl,oM⟩))))))))))))))))))))
   rotate_left
   ·omega
   ·omega
   ·exact lL
   ·exact(.q (.cons _ (.q (.q (.q .slnil)))))
   rintro n hn j _ _ ⟨k,bl,rfl,rfl,rfl,hk⟩;have hc9:((l2.length*0:Nat):Int)=((0:Nat):Int)*(l2.length:Int):=by rw[Int.natCast_mul,Int.mul_comm]
   refine rQ (rS (kM J (aK J (aO J .h3 J (aJ J hl2.spot (cX J J (fun h9=>?_) (fun h9=>?_)))))))
   ·refine Q0 (Y0 J (Q1 (W0 (rQ (W1 (rI (kM J (kM J (cI J dE .h3 J (kM J (kM J (aI J J (fun s1 h1=>mH _ _ _ _ _ _ _ _ _ _ _ _ _ s1 h1.wf oM (hl1.ext hs h1.2.1) (hl2.ext hs h1.2.1) oM oM oM) ?_))))))))))))
    have hj9:=rL (n:=l2.length) (m:=l1.length) (i:=0) (y:=k) oM oM;rw[show(1+((0:Nat):Int)*(l2.length:Int)+(k:Int):Int)=((l2.length*0+k+1:Nat):Int) from oM];refine kO (Q7 (j:=(l2.length*0+k+1)) hX rfl rfl oM (by first|rfl|omega) oM (fun _ _ a10=>(kO (W6 J (hX.at a10 oM) (bB J J J (fun b11=>(kO (cK J J (fH.own .here rfl sM) .h1 (by rw[bO,oI,Nat.mul_one]) (.inl ⟨rfl,rfl⟩) dE oM oM (fun b12=>(kM J (Q0 (Z1 (W0 (rI (kM J (aW J J oM (kM J (Q0 (W0 ?_)))))))))))))))))));exact⟨rfl,_,_,_,(show l2.length-(k+1)<l2.length-k from oM),lL,(.q (.cons _ (.q (.q (.q .slnil))))),⟨k+1,b12,rfl,(by rw[Cr];rfl),rfl,oM⟩⟩
   ·refine Q0 (U0 J (Y4 (Z2 (Z2 (Q3 (W0 (rI (aK J (aO J .h1 J (kM J (bB J J J (fun b13=>(kO (fV J J (fH.own .here rfl sM) dE oM oM (fun b14=>(aK J (kZ (cW J J .h3 J J (Q0 (Z1 (W0 (rI (kM J (aW J J dE (kM J (Q0 (W0 ?_)))))))))))))))))))))))))))
    have hkl:k=l2.length:=oM
    subst hkl;refine U4 (fun j e A=>∃(i bh:Nat) (B:Nat->Nat),e=[(1,.slice ax x.length cx),(2,.pointer (some ⟨b1,0,none⟩)),(4,.pointer (some ⟨b2,0,none⟩)),(5,.pointer (some ⟨b3,0,none⟩)),(6,.int .i64 (i:Int))]/\A=(.row bh 22 true (ET B l2.length i)::((wQ B (fun i=>uE x l2.length i l2.length) i)++(.row b3 69 false ([.slice (some ⟨bh,0,none⟩) i OPEN])::(.row b2 69 false ([.slice none 0 0])::(.row b1 33 false ([.int .i64 d,.int .i64 r,.slice a1 l1.length c1,.slice a2 l2.length c2,.int .i64 al,.int .i64 up])::[])))))/\j=l1.length-i/\i<=l1.length/\1<=i) 900 281474976710656 281474976710656 ?_ (j:=_) (env2:=_) (A2:=_) ?_ ?_ ?_ ?_ ⟨1,b14,(fun _=>bl),rfl,rfl,rfl,oM,oM⟩
    rotate_left
    ·omega
    ·omega
    ·exact lL
    ·exact(.q (.cons _ (.q (.q (.q (.q .slnil))))))
    rintro n hn j _ _ ⟨i,bh,B,rfl,rfl,rfl,hi,hi1⟩;have hc9:((l2.length*i:Nat):Int)=(i:Int)*(l2.length:Int):=by rw[Int.natCast_mul,Int.mul_comm]
    have hsl:=tZ (B:=B) (n:=l2.length) (i:=i);refine rQ (rS (kM J (aK J (aO J (.next (.app .h2)) J (aJ J hl1.spot (cX J J (fun h15=>?_) (fun h15=>?_)))))))
    ·refine Q0 (Y0 J (Q1 (W0 (rQ (W1 (rS (kM J (Q0 (rQ (rS (kM J (Q0 (W1 (bH (rQ (rS (kM J (aK J (aO J (.next (.app .h2)) J (aJ J hl2.spot (cX J J (fun h16=>?_) (fun h16=>?_))))))))))))))))))))))
     ·refine Q0 (Y0 J (Q1 (W0 (rQ (W1 (rI (kM J (kM J (cI J dE (.next (.app .h2)) J (kM J (kM J (aI J J (fun s1 h1=>mH _ _ _ _ _ _ _ _ _ _ _ _ _ s1 h1.wf oM (hl1.ext hs h1.2.1) (hl2.ext hs h1.2.1) oM oM oM) ?_))))))))))))
      have hj9:=rL (n:=l2.length) (m:=l1.length) (i:=i) (y:=0) oM oM;rw[show(1+(i:Int)*(l2.length:Int)+0:Int)=((l2.length*i+0+1:Nat):Int) from oM];refine kO (Q7 (j:=(l2.length*i+0+1)) hX rfl rfl oM (by first|rfl|omega) oM (fun _ _ a17=>(kO (W6 J (hX.at a17 oM) (bB J J J (fun b18=>(kO (fV J J (fH.own .here rfl sM) dE oM oM (fun b19=>(kM J (Q0 (Z1 (W0 (rI (kM J (aW J J dE (kM J (Q0 (W0 ?_)))))))))))))))))));refine U4 (fun j e A=>∃(k bl:Nat),e=[(1,.slice ax x.length cx),(2,.pointer (some ⟨b1,0,none⟩)),(4,.pointer (some ⟨b2,0,none⟩)),(5,.pointer (some ⟨b3,0,none⟩)),(6,.int .i64 ((i:Nat):Int)),(7,.slice (some ⟨bl,0,none⟩) k OPEN),(8,.int .i64 (k:Int))]/\A=(.row bl 3 true (ints (uE x l2.length i k))::(.row bh 22 true (ET B l2.length i)::((wQ B (fun i=>uE x l2.length i l2.length) i)++(.row b3 69 false ([.slice (some ⟨bh,0,none⟩) i OPEN])::(.row b2 69 false ([.slice none 0 0])::(.row b1 33 false ([.int .i64 d,.int .i64 r,.slice a1 l1.length c1,.slice a2 l2.length c2,.int .i64 al,.int .i64 up])::[]))))))/\j=l2.length-k/\k<=l2.length) 600 0 281474976710656 ?_ (j:=_) (env2:=_) (A2:=_) ?_ ?_ ?_ ?_ ⟨1,b19,rfl,rfl,rfl,oM⟩
      rotate_left
      ·omega
      ·omega
      ·exact lL
      ·exact(.q (.cons _ (.q (.r (.q (.q (.q .slnil)))))))
      rintro n hn j _ _ ⟨k,bl,rfl,rfl,rfl,hk⟩;have hc9:((l2.length*i:Nat):Int)=((i:Nat):Int)*(l2.length:Int):=by rw[Int.natCast_mul,Int.mul_comm]
      refine rQ (rS (kM J (aK J (aO J (.next (.next (.app .h2))) J (aJ J hl2.spot (cX J J (fun h20=>?_) (fun h20=>?_)))))))
      ·refine Q0 (Y0 J (Q1 (W0 (rQ (W1 (rI (kM J (kM J (cI J dE (.next (.next (.app .h2))) J (kM J (kM J (aI J J (fun s1 h1=>mH _ _ _ _ _ _ _ _ _ _ _ _ _ s1 h1.wf oM (hl1.ext hs h1.2.1) (hl2.ext hs h1.2.1) oM oM oM) ?_))))))))))))
       have hj9:=rL (n:=l2.length) (m:=l1.length) (i:=i) (y:=k) oM oM;rw[show(1+(i:Int)*(l2.length:Int)+(k:Int):Int)=((l2.length*i+k+1:Nat):Int) from oM];refine kO (Q7 (j:=(l2.length*i+k+1)) hX rfl rfl oM (by first|rfl|omega) oM (fun _ _ a21=>(kO (W6 J (hX.at a21 oM) (bB J J J (fun b22=>(kO (cK J J (fH.own .here rfl sM) .h1 (by rw[bO,oI,Nat.mul_one]) (.inl ⟨rfl,rfl⟩) dE oM oM (fun b23=>(kM J (Q0 (Z1 (W0 (rI (kM J (aW J J oM (kM J (Q0 (W0 ?_)))))))))))))))))));exact⟨rfl,_,_,_,(show l2.length-(k+1)<l2.length-k from oM),lL,(.q (.cons _ (.q (.r (.q (.q (.q .slnil))))))),⟨k+1,b23,rfl,(by rw[Cr];rfl),rfl,oM⟩⟩
      ·refine Q0 (U0 J (Y4 (Z2 (Z2 (Q3 (W0 (rI (aK J (aO J (.next (.next (.app .here))) J (kM J (bB J J J (fun b24=>(kO (cK J J (fH.own .here rfl sM) .h2 (by rw[tZ,Nat.mul_one]) (.inl ⟨rfl,rfl⟩) dE oM oM (fun b25=>(aK J (kZ (cW J J (.next (.next (.next (.app .here)))) J J (Q0 (Z1 (W0 (rI (kM J (aW J J oM (kM J (Q0 (W0 ?_)))))))))))))))))))))))))))
       have hkl:k=l2.length:=oM
       subst hkl;exact⟨rfl,_,_,_,(show l1.length-(i+1)<l1.length-i from oM),lL,(.q (.cons _ (.q (.r (.q (.q (.q .slnil))))))),⟨i+1,b25,mU B i bl,rfl,(by rw[Rz,M8];rfl),rfl,oM,oM⟩⟩
     ·exfalso;omega
    ·refine Q0 (U0 J (Y4 (Z2 (Z2 (Q3 (W0 (rS (cI J dE (.next (.app .here)) J (kZ (Q6 J J (.next (.app .h1)) J J J J (Q0 (V2 ?_))))))))))))
     have hil:i=l1.length:=oM
     subst hil;refine⟨rfl,[_],_,⟨_,_,_,[],rfl,rfl,dE,⟨_,_,_,(.next (.app .h1)),rfl⟩,rfl⟩,(.q (.r (.cons _ (.cons _ (.cons _ .slnil))))),bh,B,rfl,by rw[List.append_nil]⟩
  ·exfalso;omega
 ·exfalso;omega
theorem FK(n:Nat)(d r al up:Int)(a1 a2:Option Addr)(c1 c2:Nat)(l1 l2:List Int)(n0 n1 n2:Int)(s:St)(hs:Wf s)(hn:281474976710656<=n)(hl1:aN s a1 l1)(hl2:aN s a2 l2)(hm1:1<=l1.length)(hm2:1<=l2.length)(hx1:l1.length<=100)(hx2:l2.length<=100):bS Tryz.prog (bX bZ) X (n+200) 28 [.agg ⟨[.int .i64 d,.int .i64 r,.slice a1 l1.length c1,.slice a2 l2.length c2,.int .i64 al,.int .i64 up]⟩,.agg ⟨[.int .i64 n0,.int .i64 n1,.int .i64 n2]⟩] s (fun v A=>∃wk ws ww:Int,v = .agg ⟨[.int .i64 wk,.int .i64 ws,.int .i64 ww]⟩/\A=[]):=by
 refine enter PZ rfl hs ?_;unfold Og;have hlen1:=hl1.len;have hlen2:=hl2.len;refine rS (aZ J J J (fun b1=>(aZ J J J (fun b2=>(bA J J (fun b3=>(Q0 (rS (kO (dB (j:=0) J J dE dE (aO J .h1 J (aI J J (fun s1 h1=>eM _ _ _ s1 h1.wf oM) ?_))))))))))));have hk9:=dK (x:=n0) (m:=4) dE;refine aW J J oM (eI J J (bA J J (fun b4=>(kZ (Q6 J J .here rfl rfl rfl rfl (Q0 (rS (kO (dB (j:=1) J J dE dE (aO J .h2 J (aK J (aO J .h3 J (aJ J hl1.spot (aI J J (fun s1 h1=>eM _ _ _ s1 h1.wf oM) (kM J (Q0 (rS (kO (dB (j:=2) J J dE dE (aO J .h2 J (aK J (aO J .h3 J (aJ J hl2.spot (aI J J (fun s1 h1=>eM _ _ _ s1 h1.wf oM) (kM J (Q0 (rQ ?_)))))))))))))))))))))))))));refine rS (aK J (aO J .here rfl (Q0 (W1 (rS (kO (bJ J J (fun h5=>?_) (fun h5=>?_))))))))
 ·refine kM J (Q0 (Y0 J (rI (kM J (kO (A8 J (aK J (kZ (cW J J .here rfl rfl (Q0 (Z1 (W0 (rS (cI J dE .here rfl (kZ (Q6 J J .h1 J J J J (Q0 (V2 ?_))))))))))))))))))
  exact⟨rfl,[_],_,⟨_,_,_,[],rfl,rfl,dE,⟨_,_,_,.h1,rfl⟩,rfl⟩,(.cons _ (.cons _ (.cons _ (.cons _ .slnil)))),_,_,_,rfl,rfl⟩
 ·refine kM J (Q0 (U0 J (rS (kO (bJ J J (fun h6=>?_) (fun h6=>?_))))))
  ·refine kM J (Q0 (Y0 J (rI (kM J (aK J (kZ (cW J J .here rfl rfl (Q0 (Z1 (W0 (rS (cI J dE .here rfl (kZ (Q6 J J .h1 J J J J (Q0 (V2 ?_))))))))))))))))
   exact⟨rfl,[_],_,⟨_,_,_,[],rfl,rfl,dE,⟨_,_,_,.h1,rfl⟩,rfl⟩,(.cons _ (.cons _ (.cons _ (.cons _ .slnil)))),_,_,_,rfl,rfl⟩
  ·refine kM J (Q0 (U0 J (rS (kO (bJ J J (fun h7=>?_) (fun h7=>?_))))))
   ·refine kM J (Q0 (Y0 J (rI (kM J (aK J (kZ (cW J J .here rfl rfl (Q0 (Z1 (W0 (rS (cI J dE .here rfl (kZ (Q6 J J .h1 J J J J (Q0 (V2 ?_))))))))))))))))
    exact⟨rfl,[_],_,⟨_,_,_,[],rfl,rfl,dE,⟨_,_,_,.h1,rfl⟩,rfl⟩,(.cons _ (.cons _ (.cons _ (.cons _ .slnil)))),_,_,_,rfl,rfl⟩
   ·refine kM J (Q0 (U0 J (rS (kO (bJ J J (fun h8=>?_) (fun h8=>?_))))))
    ·refine kM J (Q0 (Y0 J (rS (kM J (aK J (kZ (cW J J .here rfl rfl (Q0 (rI (kM J (aK J (kZ (cW J J .here rfl rfl (Q0 (Z1 (W0 (rS (cI J dE .here rfl (kZ (Q6 J J .h1 J J J J (Q0 (V2 ?_))))))))))))))))))))))
     exact⟨rfl,[_],_,⟨_,_,_,[],rfl,rfl,dE,⟨_,_,_,.h1,rfl⟩,rfl⟩,(.cons _ (.cons _ (.cons _ (.cons _ .slnil)))),_,_,_,rfl,rfl⟩
    ·refine kM J (Q0 (U0 J (Q1 (Z1 (W0 (rS (cI J dE .here rfl (kZ (Q6 J J .h1 J J J J (Q0 (V2 ?_)))))))))))
     exact⟨rfl,[_],_,⟨_,_,_,[],rfl,rfl,dE,⟨_,_,_,.h1,rfl⟩,rfl⟩,(.cons _ (.cons _ (.cons _ (.cons _ .slnil)))),_,_,_,rfl,rfl⟩
theorem EL(n:Nat)(d r al up:Int)(a1 a2:Option Addr)(c1 c2:Nat)(l1 l2:List Int)(wk ws ww:Int)(a:Option Addr)(cap nM:Nat)(M:List (List Int))(s:St)(hs:Wf s)(hn:2814749767106560<=n)(hnM:nM=M.length)(hl1:aN s a1 l1)(hl2:aN s a2 l2)(hT:pI s a M)(hcp:jM s a2 l2.length c2):bS Tryz.prog (bX bZ) X (n+3200) 29 [.agg ⟨[.int .i64 d,.int .i64 r,.slice a1 l1.length c1,.slice a2 l2.length c2,.int .i64 al,.int .i64 up]⟩,.agg ⟨[.slice a nM cap]⟩,.agg ⟨[.int .i64 wk,.int .i64 ws,.int .i64 ww]⟩] s (fun v A=>v = .tuple #[.int .i64 (VP ((1<=d/\d<=99999)/\(1<=r/\r<=99999)/\(0<=al/\al<=100000)/\(0<=up/\up<=100000)/\bW l1 l2=true) (M.length=l1.length/\gA l2.length M=true) ((wk=1/\ws=0/\(0<=ww/\ww<=(l2.length:Int)-1)/\0<ww)∨(wk=2/\ws=0/\(0<=ww/\ww<=(l2.length:Int)-1))∨(wk=3/\(0<=ws/\ws<=(l1.length:Int)-1)/\ww=0)∨(wk=4/\(0<=ws/\ws<=(l1.length:Int)-1)/\(0<=ww/\ww<=(l2.length:Int)-1))) (Rm wk ws ww l1 l2 M)),.int .i64 (VN ((1<=d/\d<=99999)/\(1<=r/\r<=99999)/\(0<=al/\al<=100000)/\(0<=up/\up<=100000)/\bW l1 l2=true) (M.length=l1.length/\gA l2.length M=true) ((wk=1/\ws=0/\(0<=ww/\ww<=(l2.length:Int)-1)/\0<ww)∨(wk=2/\ws=0/\(0<=ww/\ww<=(l2.length:Int)-1))∨(wk=3/\(0<=ws/\ws<=(l1.length:Int)-1)/\ww=0)∨(wk=4/\(0<=ws/\ws<=(l1.length:Int)-1)/\(0<=ww/\ww<=(l2.length:Int)-1))))]/\A=[]):=by
 subst hnM;refine vX.mono (MM n _ _ _ _ _ _ _ _ _ _ wk ws ww _ _ _ s hs hn hl1 hl2 hT hcp) (fun v s' q=>?_);obtain⟨A,hA,q⟩:=q;refine⟨A,hA,?_⟩;unfold VP VN;rcases q with ⟨q1,rfl,rfl⟩|⟨q1,q2,rfl,rfl⟩|⟨⟨q1,q2⟩,q3,rfl,rfl⟩|⟨⟨q1,q2⟩,q3,rfl,rfl⟩
 ·rw[if_neg q1,if_neg q1];exact⟨rfl,rfl⟩
 ·rw[if_pos q1,if_pos q1,if_neg q2,if_neg q2];exact⟨rfl,rfl⟩
 ·rw[if_pos q1,if_pos q1,if_pos q2,if_pos q2,if_neg q3,if_neg q3];exact⟨rfl,rfl⟩
 ·rw[if_pos q1,if_pos q1,if_pos q2,if_pos q2,if_pos q3,if_pos q3];exact⟨rfl,rfl⟩
theorem EM(n:Nat)(d r al up:Int)(a1 a2:Option Addr)(c1 c2:Nat)(l1 l2:List Int)(wk ws ww:Int)(a:Option Addr)(cap nM:Nat)(M:List (List Int))(s:St)(hs:Wf s)(hn:2814749767106560<=n)(hnM:nM=M.length)(hl1:aN s a1 l1)(hl2:aN s a2 l2)(hT:pI s a M)(hcp:jM s a2 l2.length c2):bS Tryz.prog (bX bZ) X (n+3400) 30 [.agg ⟨[.int .i64 d,.int .i64 r,.slice a1 l1.length c1,.slice a2 l2.length c2,.int .i64 al,.int .i64 up]⟩,.agg ⟨[.slice a nM cap]⟩,.agg ⟨[.int .i64 wk,.int .i64 ws,.int .i64 ww]⟩] s (fun v A=>v = .tuple #[.int .i64 (VP ((1<=d/\d<=99999)/\(1<=r/\r<=99999)/\(0<=al/\al<=100000)/\(0<=up/\up<=100000)/\bW l1 l2=true) (M.length=l1.length/\gA l2.length M=true) ((wk=1/\ws=0/\(0<=ww/\ww<=(l2.length:Int)-1)/\0<ww)∨(wk=2/\ws=0/\(0<=ww/\ww<=(l2.length:Int)-1))∨(wk=3/\(0<=ws/\ws<=(l1.length:Int)-1)/\ww=0)∨(wk=4/\(0<=ws/\ws<=(l1.length:Int)-1)/\(0<=ww/\ww<=(l2.length:Int)-1))) (Rm wk ws ww l1 l2 M)),.int .i64 (VN ((1<=d/\d<=99999)/\(1<=r/\r<=99999)/\(0<=al/\al<=100000)/\(0<=up/\up<=100000)/\bW l1 l2=true) (M.length=l1.length/\gA l2.length M=true) ((wk=1/\ws=0/\(0<=ww/\ww<=(l2.length:Int)-1)/\0<ww)∨(wk=2/\ws=0/\(0<=ww/\ww<=(l2.length:Int)-1))∨(wk=3/\(0<=ws/\ws<=(l1.length:Int)-1)/\ww=0)∨(wk=4/\(0<=ws/\ws<=(l1.length:Int)-1)/\(0<=ww/\ww<=(l2.length:Int)-1))))]/\A=[]):=by
 subst hnM;refine vX.mono (MT n _ _ _ _ _ _ _ _ _ _ wk ws ww _ _ _ s hs hn hl1 hl2 hT hcp) (fun v s' q=>?_);obtain⟨A,hA,q⟩:=q;refine⟨A,hA,?_⟩;unfold VP VN;rcases q with ⟨q1,rfl,rfl⟩|⟨q1,q2,rfl,rfl⟩|⟨⟨q1,q2⟩,q3,rfl,rfl⟩|⟨⟨q1,q2⟩,q3,rfl,rfl⟩
 ·rw[if_neg q1,if_neg q1];exact⟨rfl,rfl⟩
 ·rw[if_pos q1,if_pos q1,if_neg q2,if_neg q2];exact⟨rfl,rfl⟩
 ·rw[if_pos q1,if_pos q1,if_pos q2,if_pos q2,if_neg q3,if_neg q3];exact⟨rfl,rfl⟩
 ·rw[if_pos q1,if_pos q1,if_pos q2,if_pos q2,if_pos q3,if_pos q3];exact⟨rfl,rfl⟩
theorem tD(n:Nat)(d r al up:Int)(a1 a2:Option Addr)(c1 c2:Nat)(l1 l2:List Int)(a3 a4:Option Addr)(c3 c4:Nat)(rs cs:List (List Int))(a:Option Addr)(cap nM:Nat)(M:List (List Int))(s:St)(hs:Wf s)(hn:11258999068426240<=n)(hl1:aN s a1 l1)(hl2:aN s a2 l2)(hr:RowsE s 7 a3 rs)(hc:RowsE s 6 a4 cs)(hnM:nM=M.length)(hT:pI s a M):bS Tryz.prog (bX bZ) X (n+9000) 31 [.agg ⟨[.int .i64 d,.int .i64 r,.slice a1 l1.length c1,.slice a2 l2.length c2,.int .i64 al,.int .i64 up,.slice a3 rs.length c3,.slice a4 cs.length c4]⟩,.agg ⟨[.slice a nM cap]⟩] s (fun v A=>v = .int .i64 (M3 (Bm (oO ((1<=d/\d<=99999)/\(1<=r/\r<=99999)/\(0<=al/\al<=100000)/\(0<=up/\up<=100000)/\bW l1 l2=true) l1 l2 rs cs) (xY (l1.length:Int) (l2.length:Int) rs (Sv.b6 (Sv.mk r al up l1 l2 rs cs)))) (decide (M.length=l1.length) && gA l2.length M) (Uc M l2.length (l2.length*l1.length) (dys rs).length (Sv.b6 (Sv.mk r al up l1 l2 rs cs))))/\A=[]):=by
 subst hnM;exact EJ n _ _ _ _ _ _ _ _ _ _ _ _ _ _ _ _ a cap M s hs hn hl1 hl2 hr hc hT
theorem rM(n:Nat)(d r al up:Int)(a1 a2:Option Addr)(c1 c2:Nat)(l1 l2:List Int)(a3 a4:Option Addr)(c3 c4:Nat)(rs cs:List (List Int))(a:Option Addr)(cap nM:Nat)(M:List (List Int))(s:St)(hs:Wf s)(hn:11258999068426240<=n)(hl1:aN s a1 l1)(hl2:aN s a2 l2)(hr:RowsE s 7 a3 rs)(hc:RowsE s 6 a4 cs)(hnM:nM=M.length)(hT:pI s a M):bS Tryz.prog (bX bZ) X (n+9000) 32 [.agg ⟨[.int .i64 d,.int .i64 r,.slice a1 l1.length c1,.slice a2 l2.length c2,.int .i64 al,.int .i64 up,.slice a3 rs.length c3,.slice a4 cs.length c4]⟩,.agg ⟨[.slice a nM cap]⟩] s (fun v A=>v = .int .i64 (M3 (Bm (oO ((1<=d/\d<=99999)/\(1<=r/\r<=99999)/\(0<=al/\al<=100000)/\(0<=up/\up<=100000)/\bW l1 l2=true) l1 l2 rs cs) (xY (l1.length:Int) (l2.length:Int) rs (Sv.b6 (Sv.mk r al up l1 l2 rs cs)))) (decide (M.length=l1.length) && gA l2.length M) (Uc M l2.length (l2.length*l1.length) (dys rs).length (Sv.b6 (Sv.mk r al up l1 l2 rs cs))))/\A=[]):=by
 subst hnM;exact Do n _ _ _ _ _ _ _ _ _ _ _ _ _ _ _ _ a cap M s hs hn hl1 hl2 hr hc hT
end
theorem RA{x:List Int}{n i k y:Nat}{c:Int}(hc:0<=c)(h:PB x c):-c<=(uE x n i k).getD y 0/\(uE x n i k).getD y 0<=c:=by
 by_cases hy:y<k
 ·have e:(uE x n i k).getD y 0=x.getD (n*i+y+1) 0:=by
   unfold uE;rw[List.getD_eq_getElem?_getD,List.getElem?_map,List.getElem?_range hy];rfl
  rw[e];exact h _
 ·rw[mI (by rw[oI];omega)];omega
section
set_option maxHeartbeats 8000000 in
set_option maxRecDepth 100000 in
theorem EN(n:Nat)(aS aQ aC aP:Option Addr)(cS cQ cC cP:Nat)(lS:List Int)(qs ts:List (List Int))(ps:List Int)(g0 g1 g2:Int)(aH:Option Addr)(cH:Nat)(MH:List (List Int))(n0 n1 n2 n3 n4 n5:Int)(s:St)(hs:Wf s)(hn:16888498602639360<=n)(hS:aN s aS lS)(hQ:RowsE s 5 aQ qs)(hT:RowsE s 4 aC ts)(hP:aN s aP ps)(hg0:I64 g0)(hg1:I64 g1)(hg2:I64 g2)(hH:pI s aH MH):bS Tryz.prog (bX bZ) (uR 6) (n+12000) 5 [.agg ⟨[.slice aS lS.length cS,.slice aQ qs.length cQ,.slice aC ts.length cC,.slice aP ps.length cP,.int .i64 g0,.int .i64 g1,.int .i64 g2]⟩,.agg ⟨[.slice aH MH.length cH]⟩,.agg ⟨[.int .i64 n0,.int .i64 n1,.int .i64 n2,.int .i64 n3,.int .i64 n4,.int .i64 n5]⟩] s (fun v A=>v = .bool true/\A=[]):=by
 refine enter S2 rfl hs ?_;unfold VJ;have hlen1:=hS.len;have hlen2:=hQ.len;have hlen3:=hT.len;have hlen4:=hP.len;have hlenH:=hH.len;refine rS (aZ J J J (fun b1=>(aZ J J J (fun b2=>(aZ J J J (fun b3=>(kM J (Q0 (rS (aI J J (fun s1 h1=>QM _ s1 h1.wf) (kM J (Q0 (rS (cI J dE .h2 J (kO (Z4 J J (fun s1 h1=>Mx _ _ _ _ _ _ _ _ _ lS qs ts ps g0 g1 g2 s1 h1.wf oM (hS.ext hs h1.2.1) (hQ.ext hs h1.2.1) (hT.ext hs h1.2.1) (hP.ext hs h1.2.1) hg0 hg1 hg2) (fun v1 A1 q1=>?_)))))))))))))))));obtain⟨bm1,bm2,d,r,al,up,l1,l2,aF,cF,RU,rs,aD,cD,CU,cs,rfl,hA0,hsf,hU,hV,hWv,hWc,hr15,hc5⟩:=q1;rw[hA0,List.append_assoc,List.append_assoc,List.cons_append,List.cons_append,List.nil_append];have hf1:=hsf.2.2.2.2.1;have hf2:=hsf.2.2.2.2.2.1;have hq1:=hsf.2.2.2.2.2.2.2.1;have hq2:=hsf.2.2.2.2.2.2.2.2.2;have hdl:=Ao (rs:=rs);have hspm1:∀b,(some ⟨bm1,0,none⟩:Option Addr)=some b->b.spot=none:=fun b hb=>by cases hb;rfl
 have hspm2:∀b,(some ⟨bm2,0,none⟩:Option Addr)=some b->b.spot=none:=fun b hb=>by cases hb;rfl
 have hspR:=hU.spot;have hspC:=hV.spot;refine bA J J (fun b4=>(kZ (Q6 J J .here rfl rfl rfl rfl (Q0 (rS (cI J dE (.next (.app (.app .h4))) J (kO (Z4 J J (fun s1 h1=>Mv _ _ _ _ _ _ _ _ _ lS qs ts ps g0 g1 g2 s1 h1.wf oM (hS.ext hs h1.2.1) (hQ.ext hs h1.2.1) (hT.ext hs h1.2.1) (hP.ext hs h1.2.1)) (fun v1 A1 q1=>?_)))))))));obtain⟨bn1,bn2,du,ru,alu,upu,L1,L2,aFu,cFu,RU2,rsu,aDu,cDu,CU2,csu,bY,ys,rfl,rfl,hMSu,hUu,hVu,hWvu,hWcu,hrdu,hcpu,hr14u,hc5u,hylu,hybu⟩:=q1;simp only[List.cons_append,List.append_assoc,List.nil_append];obtain⟨hspu,hq1u,hq2u,hA1u,hA2u⟩:=hMSu;have hp1u:=fG hspu.2.2.2.2;have hp2u:=fR hspu.2.2.2.2;have h21u:=hp1u.h2;have h22u:=hp2u.h2;have hf1u:=tQ hA1u dE;have hf2u:=tQ hA2u dE;have hfyu:=Bt hybu;have hdlu:=Ao (rs:=rsu);have hN9u:L1.length*L2.length<=12:=Nat.mul_le_mul hq1u hq2u;have hNcu:L2.length*L1.length=L1.length*L2.length:=Nat.mul_comm _ _;have hspn1:∀b,(some ⟨bn1,0,none⟩:Option Addr)=some b->b.spot=none:=fun b hb=>by cases hb;rfl
 have hspn2:∀b,(some ⟨bn2,0,none⟩:Option Addr)=some b->b.spot=none:=fun b hb=>by cases hb;rfl
 have hspR2:=hUu.spot;have hspC2:=hVu.spot;refine kM J (eP J J (eP J J (bA J J (fun b5=>(kZ (Q6 J J .here rfl rfl rfl rfl (kM J (Q0 (rS (aK J (cI J dE .here rfl (kM J (kO (Z4 J J (fun s1 h1=>TJ _ du ru alu upu _ _ _ _ L1 L2 _ _ _ ys s1 h1.wf oM (aN.own (h1.own (.next (.next (.app (.app .h1))))) hf1u oM) (aN.own (h1.own (.next (.next (.app (.app .here))))) hf2u oM) hylu.symm (aN.own (h1.own .h1) hfyu oM) oM oM oM) (fun v1 A1 q1=>?_)))))))))))))));obtain⟨bt,B,rfl,rfl⟩:=q1;rw[List.cons_append];have hspt:∀b,(some ⟨bt,0,none⟩:Option Addr)=some b->b.spot=none:=fun b hb=>by cases hb;rfl
 refine bA J J (fun b6=>(kZ (Q6 J J .here rfl rfl rfl rfl (Q0 (rS (kO (dB (j:=3) J J dE dE (aO J (.next (.next (.app (.next (.next (.app (.app (.next (.next (.next (.app (.app .h2)))))))))))) J (aK J (aO J .here rfl (kO (cO J (aI J J (fun s1 h1=>eM _ _ _ s1 h1.wf oM) ?_)))))))))))));obtain⟨iN,hiN,hiL⟩:=tV (x:=n3) (m:=L1.length) oM;rw[hiN];have hspB:∀b,(some ⟨B iN,0,none⟩:Option Addr)=some b->b.spot=none:=fun b hb=>by cases hb;rfl
 refine kM J (Q0 (rS (kO (dB (j:=4) J J dE dE (aO J (.next (.next (.app (.next (.next (.app (.app (.next (.next (.next (.app (.app .h2)))))))))))) J (aK J (aO J .here rfl (kM J (cL (j:=iN) J J oM oM (aO J .h1 (tC oM) (kO (cO J (aI J J (fun s1 h1=>eM _ _ _ s1 h1.wf oM) ?_)))))))))))));obtain⟨kN,hkN,hkL⟩:=tV (x:=n4) (m:=L2.length) oM;rw[hkN];have hvb:=RA (n:=L2.length) (i:=iN) (k:=L2.length) (y:=kN) dE hybu;refine kM J (Q0 (rS (aK J (aO J .here rfl (kM J (cL (j:=iN) J J oM oM (aO J .h1 (tC oM) (kM J (aK J (aO J .here rfl (kM J (cL (j:=iN) J J oM oM (aO J .h1 (tC oM) (kM J (cL (j:=kN) J J oM oM (kO (eD J (.next (.next (lG oM))) (by rw[oI];omega) (kO (dB (j:=5) J J dE dE (aO J (.next (.next (.app (.next (.next (.app (.app (.next (.next (.next (.app (.app .h2)))))))))))) J (aI J J (fun s1 h1=>eM _ _ _ s1 h1.wf oM) ?_)))))))))))))))))))));have hm41:=dK (x:=n5) (m:=41) dE;refine kZ (aL J J (.next (.next (lG oM))) (oC (by rw[oI];omega)) (by simp[eqV,kindEq,aB]) (kZ (aL J J .h1 (tC oM) (by simp[V5 hspB]) (kZ (aL J J .here rfl (by simp[eqV,eqA,eqL,kindEq,aB,V5 hspm1,V5 hspm2,V5 hspR,V5 hspC,V5 hspn1,V5 hspn2,V5 hspR2,V5 hspC2,V5 hspt,V5 hH.spot]) (kZ (aL J J .h1 (tC oM) (by simp[V5 hspB]) (kZ (aL J J .here rfl (by simp[eqV,eqA,eqL,kindEq,aB,V5 hspm1,V5 hspm2,V5 hspR,V5 hspC,V5 hspn1,V5 hspn2,V5 hspR2,V5 hspC2,V5 hspt,V5 hH.spot]) (aW J J oM (kO (bN J J oM (cL (j:=kN) J J oM oM (kZ (W7 J J (.next (.next (EK oM))) (by rw[oI];omega) (Q0 (rS (aK J (cI J dE (.next (.next (.app .here))) J (kO (dB (j:=0) J J dE dE (aO J (.next (.next (.app (.next (.next (.app (.app (.next (.next (.next (.app (.app .h2)))))))))))) J (kO (dB (j:=1) J J dE dE (aO J (.next (.next (.app (.next (.next (.app (.app (.next (.next (.next (.app (.app .h2)))))))))))) J (kO (dB (j:=2) J J dE dE (aO J (.next (.next (.app (.next (.next (.app (.app (.next (.next (.next (.app (.app .h2)))))))))))) J (eI J J (kO (Z4 J J (fun s1 h1=>FK _ du ru alu upu _ _ _ _ L1 L2 _ _ _ s1 h1.wf oM (aN.own (h1.own (.next (.next (.app (.next (.next (.app (.app .h1)))))))) hf1u oM) (aN.own (h1.own (.next (.next (.app (.next (.next (.app (.app .here)))))))) hf2u oM) oM oM oM oM) (fun v1 A1 q1=>?_))))))))))))))))))))))))))))))));obtain⟨wk,ws,ww,rfl,rfl⟩:=q1;rw[List.nil_append]
 refine bA J J (fun b7=>(kZ (Q6 J J .here rfl rfl rfl rfl (Q0 (rS (aK J (cI J dE (.next (.next (.next (.app (.next (.next (.app (.app .h2)))))))) J (cI J dE .h1 J (cI J dE .here rfl (aI J J (fun s1 h1=>EL _ d r al up _ _ _ _ l1 l2 wk ws ww _ _ _ _ s1 h1.wf oM qD.symm (aN.own (h1.own (.next (.next (.next (.app (.next (.next (.app (.app (.next (.next (.next (.app (.app .h1)))))))))))))) hf1 oM) (aN.own (h1.own (.next (.next (.next (.app (.next (.next (.app (.app (.next (.next (.next (.app (.app .here)))))))))))))) hf2 oM) (IG h1 .h2 (fun j hj=>(.next (.next (.next (lG hj))))) ((nU hfyu).set hiL ⟨oM,oM⟩) oM oM) (jM.own (h1.own (.next (.next (.next (.app (.next (.next (.app (.app (.next (.next (.next (.app (.app .here)))))))))))))) (by rw[bO];exact Nat.le_refl _))) (kM J (eP J J (eP J J (kM J (kM J (Q0 (rS (aK J (cI J dE (.next (.next (.next (.app (.next (.next (.app (.app .h2)))))))) J (cI J dE .h1 J (cI J dE .here rfl (aI J J (fun s1 h1=>EM _ d r al up _ _ _ _ l1 l2 wk ws ww _ _ _ _ s1 h1.wf oM qD.symm (aN.own (h1.own (.next (.next (.next (.app (.next (.next (.app (.app (.next (.next (.next (.app (.app .h1)))))))))))))) hf1 oM) (aN.own (h1.own (.next (.next (.next (.app (.next (.next (.app (.app (.next (.next (.next (.app (.app .here)))))))))))))) hf2 oM) (IG h1 .h2 (fun j hj=>(.next (.next (.next (lG hj))))) ((nU hfyu).set hiL ⟨oM,oM⟩) oM oM) (jM.own (h1.own (.next (.next (.next (.app (.next (.next (.app (.app (.next (.next (.next (.app (.app .here)))))))))))))) (by rw[bO];exact Nat.le_refl _))) (kM J (eP J J (eP J J ?_)))))))))))))))))))))))))
 refine kM J (kM J (Q0 (rS (aK J (cI J dE (.next (.next (.next (.app (.next (.next (.app (.app .h2)))))))) J (cI J dE (.next (.next (.next (.app (.next (.next (.app (.app (.next (.next (.next (.app (.app .h3))))))))))))) J (cI J dE .here rfl (aI J J (fun s1 h1=>EL _ d r al up _ _ _ _ l1 l2 wk ws ww _ _ _ _ s1 h1.wf oM J (aN.own (h1.own (.next (.next (.next (.app (.next (.next (.app (.app (.next (.next (.next (.app (.app .h1)))))))))))))) hf1 oM) (aN.own (h1.own (.next (.next (.next (.app (.next (.next (.app (.app (.next (.next (.next (.app (.app .here)))))))))))))) hf2 oM) (hH.ext hs h1.2.1) (jM.own (h1.own (.next (.next (.next (.app (.next (.next (.app (.app (.next (.next (.next (.app (.app .here)))))))))))))) (by rw[bO];exact Nat.le_refl _))) (kM J (eP J J (eP J J (kM J (kM J (Q0 (rS (aK J (cI J dE (.next (.next (.next (.app (.next (.next (.app (.app .h2)))))))) J (cI J dE (.next (.next (.next (.app (.next (.next (.app (.app (.next (.next (.next (.app (.app .h3))))))))))))) J (cI J dE .here rfl (aI J J (fun s1 h1=>EM _ d r al up _ _ _ _ l1 l2 wk ws ww _ _ _ _ s1 h1.wf oM J (aN.own (h1.own (.next (.next (.next (.app (.next (.next (.app (.app (.next (.next (.next (.app (.app .h1)))))))))))))) hf1 oM) (aN.own (h1.own (.next (.next (.next (.app (.next (.next (.app (.app (.next (.next (.next (.app (.app .here)))))))))))))) hf2 oM) (hH.ext hs h1.2.1) (jM.own (h1.own (.next (.next (.next (.app (.next (.next (.app (.app (.next (.next (.next (.app (.app .here)))))))))))))) (by rw[bO];exact Nat.le_refl _))) (kM J (eP J J (eP J J ?_)))))))))))))))))))))))
 refine kM J (kM J (Q0 (rS (kM J (kM J (kG (V4 J dE (.next (.next (.next (.app (.next (.next (.app (.app .h2)))))))) J (kG (V4 J dE (.next (.next (.next (.app (.next (.next (.app (.app (.next (.next (.next (.app (.app .h3))))))))))))) J (kG (V4 J dE (.next (.next (.next (.app (.next (.next (.app (.app .h2)))))))) J (kG (V4 J dE (.next (.next (.next (.app (.next (.next (.app (.app (.next (.next (.next (.app (.app .h3))))))))))))) J (kG (gP J J (fun s1 h1=>tD _ d r al up _ _ _ _ l1 l2 _ _ _ _ rs cs _ _ _ _ s1 h1.wf oM (aN.own (h1.own (.next (.next (.next (.app (.next (.next (.app (.app (.next (.next (.next (.app (.app .h1)))))))))))))) hf1 oM) (aN.own (h1.own (.next (.next (.next (.app (.next (.next (.app (.app (.next (.next (.next (.app (.app .here)))))))))))))) hf2 oM) (hU.rows (.cons _ (.cons _ (.cons _ (sR (.cons _ (.cons _ (sR (sR (.cons _ (.cons _ (.cons _ sA))))))))))) h1 hWv oM) (hV.rows (.cons _ (.cons _ (.cons _ (sR (.cons _ (.cons _ (sR (sR (.cons _ (.cons _ (.cons _ (sR sA)))))))))))) h1 hWc oM) J (hH.ext hs h1.2.1)) (kZ (eZ J J dE (.next (.next (.next (.app (.next (.next (.app (.app (.next (.next (.next (.app (.app .h3))))))))))))) J (by simp[eqL,eqV,eqA,kindEq,aB,V5 hspm1,V5 hspm2,V5 hspR,V5 hspC,V5 hspn1,V5 hspn2,V5 hspR2,V5 hspC2,V5 hspt,V5 hH.spot]) (kZ (eZ J J dE (.next (.next (.next (.app (.next (.next (.app (.app .h2)))))))) J (by simp[eqL,eqV,eqA,kindEq,aB,V5 hspm1,V5 hspm2,V5 hspR,V5 hspC,V5 hspn1,V5 hspn2,V5 hspR2,V5 hspC2,V5 hspt,V5 hH.spot]) (kG (gP J J (fun s1 h1=>rM _ d r al up _ _ _ _ l1 l2 _ _ _ _ rs cs _ _ _ _ s1 h1.wf oM (aN.own (h1.own (.next (.next (.next (.app (.next (.next (.app (.app (.next (.next (.next (.app (.app .h1)))))))))))))) hf1 oM) (aN.own (h1.own (.next (.next (.next (.app (.next (.next (.app (.app (.next (.next (.next (.app (.app .here)))))))))))))) hf2 oM) (hU.rows (.cons _ (.cons _ (.cons _ (sR (.cons _ (.cons _ (sR (sR (.cons _ (.cons _ (.cons _ sA))))))))))) h1 hWv oM) (hV.rows (.cons _ (.cons _ (.cons _ (sR (.cons _ (.cons _ (sR (sR (.cons _ (.cons _ (.cons _ (sR sA)))))))))))) h1 hWc oM) J (hH.ext hs h1.2.1)) (kG (bJ J J (fun h8=>?_) (fun h8=>?_))))))))))))))))))))))))
 ·refine cB J J J (kM J (kG (V4 J dE (.next (.next (.next (.app (.next (.next (.app (.app .h2)))))))) J (kG (V4 J dE .h1 J (kG (V4 J dE (.next (.next (.next (.app (.next (.next (.app (.app .h2)))))))) J (kG (V4 J dE .h1 J (kG (gP J J (fun s1 h1=>tD _ d r al up _ _ _ _ l1 l2 _ _ _ _ rs cs _ _ _ _ s1 h1.wf oM (aN.own (h1.own (.next (.next (.next (.app (.next (.next (.app (.app (.next (.next (.next (.app (.app .h1)))))))))))))) hf1 oM) (aN.own (h1.own (.next (.next (.next (.app (.next (.next (.app (.app (.next (.next (.next (.app (.app .here)))))))))))))) hf2 oM) (hU.rows (.cons _ (.cons _ (.cons _ (sR (.cons _ (.cons _ (sR (sR (.cons _ (.cons _ (.cons _ sA))))))))))) h1 hWv oM) (hV.rows (.cons _ (.cons _ (.cons _ (sR (.cons _ (.cons _ (sR (sR (.cons _ (.cons _ (.cons _ (sR sA)))))))))))) h1 hWc oM) qD.symm (IG h1 .h2 (fun j hj=>(.next (.next (.next (lG hj))))) ((nU hfyu).set hiL ⟨oM,oM⟩) oM oM)) (kZ (eZ J J dE .h1 J (by simp[eqL,eqV,eqA,kindEq,aB,V5 hspm1,V5 hspm2,V5 hspR,V5 hspC,V5 hspn1,V5 hspn2,V5 hspR2,V5 hspC2,V5 hspt,V5 hH.spot]) (kZ (eZ J J dE (.next (.next (.next (.app (.next (.next (.app (.app .h2)))))))) J (by simp[eqL,eqV,eqA,kindEq,aB,V5 hspm1,V5 hspm2,V5 hspR,V5 hspC,V5 hspn1,V5 hspn2,V5 hspR2,V5 hspC2,V5 hspt,V5 hH.spot]) (kG (gP J J (fun s1 h1=>rM _ d r al up _ _ _ _ l1 l2 _ _ _ _ rs cs _ _ _ _ s1 h1.wf oM (aN.own (h1.own (.next (.next (.next (.app (.next (.next (.app (.app (.next (.next (.next (.app (.app .h1)))))))))))))) hf1 oM) (aN.own (h1.own (.next (.next (.next (.app (.next (.next (.app (.app (.next (.next (.next (.app (.app .here)))))))))))))) hf2 oM) (hU.rows (.cons _ (.cons _ (.cons _ (sR (.cons _ (.cons _ (sR (sR (.cons _ (.cons _ (.cons _ sA))))))))))) h1 hWv oM) (hV.rows (.cons _ (.cons _ (.cons _ (sR (.cons _ (.cons _ (sR (sR (.cons _ (.cons _ (.cons _ (sR sA)))))))))))) h1 hWc oM) qD.symm (IG h1 .h2 (fun j hj=>(.next (.next (.next (lG hj))))) ((nU hfyu).set hiL ⟨oM,oM⟩) oM oM)) (kG (bJ J J (fun h9=>?_) (fun h9=>?_))))))))))))))))))))
  ·refine cB J J J (kM J (kG (V4 J dE (.next (.next (.next (.app .here)))) J (kG (V4 J dE .h1 J (kG (V4 J dE (.next (.next (.next (.app .here)))) J (kG (V4 J dE .h1 J (kG (gP J J (fun s1 h1=>tD _ du ru alu upu _ _ _ _ L1 L2 _ _ _ _ rsu csu _ _ _ _ s1 h1.wf oM (aN.own (h1.own (.next (.next (.next (.app (.next (.next (.app (.app .h1))))))))) hf1u oM) (aN.own (h1.own (.next (.next (.next (.app (.next (.next (.app (.app .here))))))))) hf2u oM) (hUu.rows (.cons _ (.cons _ (.cons _ (sR (.cons _ (.cons _ sA)))))) h1 hWvu oM) (hVu.rows (.cons _ (.cons _ (.cons _ (sR (.cons _ (.cons _ (sR sA))))))) h1 hWcu oM) qD.symm (IG h1 .h2 (fun j hj=>(.next (.next (.next (lG hj))))) ((nU hfyu).set hiL ⟨oM,oM⟩) oM oM)) (kZ (eZ J J dE .h1 J (by simp[eqL,eqV,eqA,kindEq,aB,V5 hspm1,V5 hspm2,V5 hspR,V5 hspC,V5 hspn1,V5 hspn2,V5 hspR2,V5 hspC2,V5 hspt,V5 hH.spot]) (kZ (eZ J J dE (.next (.next (.next (.app .here)))) J (by simp[eqL,eqV,eqA,kindEq,aB,V5 hspm1,V5 hspm2,V5 hspR,V5 hspC,V5 hspn1,V5 hspn2,V5 hspR2,V5 hspC2,V5 hspt,V5 hH.spot]) (kG (gP J J (fun s1 h1=>rM _ du ru alu upu _ _ _ _ L1 L2 _ _ _ _ rsu csu _ _ _ _ s1 h1.wf oM (aN.own (h1.own (.next (.next (.next (.app (.next (.next (.app (.app .h1))))))))) hf1u oM) (aN.own (h1.own (.next (.next (.next (.app (.next (.next (.app (.app .here))))))))) hf2u oM) (hUu.rows (.cons _ (.cons _ (.cons _ (sR (.cons _ (.cons _ sA)))))) h1 hWvu oM) (hVu.rows (.cons _ (.cons _ (.cons _ (sR (.cons _ (.cons _ (sR sA))))))) h1 hWcu oM) qD.symm (IG h1 .h2 (fun j hj=>(.next (.next (.next (lG hj))))) ((nU hfyu).set hiL ⟨oM,oM⟩) oM oM)) (kG (bJ J J (fun h10=>?_) (fun h10=>?_))))))))))))))))))))
   ·refine cB J J J (kM J (kG (U2 J (kG (U2 J (kG (bJ J J (fun h11=>?_) (fun h11=>?_))))))))
    ·refine cB J J J (kM J (kG (U2 J (kG (U2 J (kG (bJ J J (fun h12=>?_) (fun h12=>?_))))))))
     ·refine cB J J J (kM J (kG (U2 J (kG (U2 J (kG (bJ J J (fun h13=>?_) (fun h13=>?_))))))))
      ·refine cB J J J (kM J (kG (U2 J (kG (U2 J (kG (bJ J J (fun h14=>?_) (fun h14=>?_))))))))
       ·refine cB J J J (kM J (Q0 (V2 ?_)))
        exact aU J ⟨rfl,rfl⟩
       ·exact absurd rfl h14
      ·exact absurd rfl h13
     ·exact absurd rfl h12
    ·exact absurd rfl h11
   ·exact absurd rfl h10
  ·exact absurd rfl h9
 ·exact absurd rfl h8
end
end Ev
end Go.Proofs.YtjkdkpckjgaplaaGreat
namespace Go.Proofs.YtjkdkpckjgaplaaGreat.Ev
open Go Go.RowKit Go.ChangeShapes Go.WideShapes Go.ChangeAt Go.Joins
set_option linter.unusedVariables false
noncomputable section
theorem Dr{s:St}{a:Option Addr}{rs:List (List Int)}(h:RowsE s 1 a rs):aN s a (rs.map fun r=>r.getD 0 0):=by
 have hr:∀r∈rs,r=[r.getD 0 0]:=fun r hr=>by
  have:=h.width r hr
  match r,this with
  |[z],_=>rfl
 refine⟨h.spot,fun hn=>h.addr (by rintro rfl;exact hn rfl),fun b o ha=>?_,fun x hx=>?_,by rw[List.length_map];exact h.len⟩
 ·have key:∀(l:List (List Int)) (k:Nat),(∀i r,l[i]? = some r->pR s b (o+(k+i)*1) (r.map (.int .i64)))->(∀r∈l,r=[r.getD 0 0])->pR s b (o+k) (ints (l.map fun r=>r.getD 0 0)):=by
   intro l
   induction l with
   |nil=>intro k _ _;exact trivial
   |cons r l ih=>
    intro k h1 h2;have q:=h1 0 r rfl;rw[h2 r sM] at q;refine⟨?_,?_⟩
    ·have:=q.1;simpa using this
    ·have:=ih (k+1) (fun i r' hr'=>by have:=h1 (i+1) r' (by simpa using hr');rwa [show k+(i+1)=k+1+i by omega] at this) (fun r' hr'=>h2 r' (by simp[hr']))
     rwa [show o+(k+1)=o+k+1 by omega] at this
  have:=key rs 0 (fun i r hr'=>by rw[Nat.zero_add];exact h.cells b o ha i r hr') hr;simpa using this
 ·obtain⟨r,h1,rfl⟩:=List.mem_map.1 hx
  have h2:=h.fit r h1;rw[hr r h1] at h2 ⊢;exact h2 _ sM
end
end Go.Proofs.YtjkdkpckjgaplaaGreat.Ev
namespace Go.Proofs.YtjkdkpckjgaplaaGreat.Ev
open Go Go.RowKit Go.ChangeShapes Go.WideShapes Go.ChangeAt Go.Joins
set_option linter.unusedVariables false
noncomputable section
variable{H:Type}{enc:TypeId×Value->H}
set_option maxRecDepth 100000 in
theorem Na{W:World}:sW H Tryz.prog enc W 127 5:=by
 intro base fuel sp held cs x h;obtain⟨xs,m,_,_,hl,hxl,hxi⟩:=DataW.trod_array Tryz.underlying127 h;have e3:Tryz.prog.cellsOf 127=5:=kR
 have e4:Tryz.prog.cellsOf 3=1:=kR
 rw[e3] at hl
 match cs,hl with
 |[c0,c1,c2,c3,c4],_=>
  have g0:=hxi 0 oM;rw[e4] at g0;have g1:=hxi 1 oM;rw[e4] at g1;have g2:=hxi 2 oM;rw[e4] at g2;have g3:=hxi 3 oM;rw[e4] at g3;have g4:=hxi 4 oM;rw[e4] at g4
  match xs,hxl with
  |[y0,y1,y2,y3,y4],_=>
   obtain⟨z0,q0,_,w0⟩:=DataW.trod_int Tryz.underlying3 (show DataW.trod enc Tryz.prog W base sp held m 3 [c0]=some y0 from g0);obtain⟨z1,q1,_,w1⟩:=DataW.trod_int Tryz.underlying3 (show DataW.trod enc Tryz.prog W base sp held m 3 [c1]=some y1 from g1);obtain⟨z2,q2,_,w2⟩:=DataW.trod_int Tryz.underlying3 (show DataW.trod enc Tryz.prog W base sp held m 3 [c2]=some y2 from g2);obtain⟨z3,q3,_,w3⟩:=DataW.trod_int Tryz.underlying3 (show DataW.trod enc Tryz.prog W base sp held m 3 [c3]=some y3 from g3);obtain⟨z4,q4,_,w4⟩:=DataW.trod_int Tryz.underlying3 (show DataW.trod enc Tryz.prog W base sp held m 3 [c4]=some y4 from g4);simp at q0 q1 q2 q3 q4;subst q0;subst q1;subst q2;subst q3;subst q4;exact⟨[z0,z1,z2,z3,z4],rfl,rfl,fun z hz=>by simp at hz;rcases hz with rfl|rfl|rfl|rfl|rfl <;> first|exact jC w0|exact jC w1|exact jC w2|exact jC w3|exact jC w4⟩
set_option maxRecDepth 100000 in
theorem Nb{W:World}:sW H Tryz.prog enc W 128 4:=by
 intro base fuel sp held cs x h;obtain⟨xs,m,_,_,hl,hxl,hxi⟩:=DataW.trod_array Tryz.underlying128 h;have e3:Tryz.prog.cellsOf 128=4:=kR
 have e4:Tryz.prog.cellsOf 3=1:=kR
 rw[e3] at hl
 match cs,hl with
 |[c0,c1,c2,c3],_=>
  have g0:=hxi 0 oM;rw[e4] at g0;have g1:=hxi 1 oM;rw[e4] at g1;have g2:=hxi 2 oM;rw[e4] at g2;have g3:=hxi 3 oM;rw[e4] at g3
  match xs,hxl with
  |[y0,y1,y2,y3],_=>
   obtain⟨z0,q0,_,w0⟩:=DataW.trod_int Tryz.underlying3 (show DataW.trod enc Tryz.prog W base sp held m 3 [c0]=some y0 from g0);obtain⟨z1,q1,_,w1⟩:=DataW.trod_int Tryz.underlying3 (show DataW.trod enc Tryz.prog W base sp held m 3 [c1]=some y1 from g1);obtain⟨z2,q2,_,w2⟩:=DataW.trod_int Tryz.underlying3 (show DataW.trod enc Tryz.prog W base sp held m 3 [c2]=some y2 from g2);obtain⟨z3,q3,_,w3⟩:=DataW.trod_int Tryz.underlying3 (show DataW.trod enc Tryz.prog W base sp held m 3 [c3]=some y3 from g3);simp at q0 q1 q2 q3;subst q0;subst q1;subst q2;subst q3;exact⟨[z0,z1,z2,z3],rfl,rfl,fun z hz=>by simp at hz;rcases hz with rfl|rfl|rfl|rfl <;> first|exact jC w0|exact jC w1|exact jC w2|exact jC w3⟩
set_option maxRecDepth 100000 in
set_option maxHeartbeats 2000000 in
theorem IH{W:World}{r:Reach}{b0:Nat}{v:Value}{d:DataW H}{p:List MemPlace}(hv:Value.okWide Tryz.prog W r b0 27 v)(h:DataW.Trod enc Tryz.prog W 0 (fun _=>true) true 27 v d p)(hz:∀x∈DataW.weights Tryz.prog 27 d,x<=reachBytes) :
 ∃a0 n0 c0 r0 a1 n1 c1 r1 a2 n2 c2 r2 a3 n3 c3 r3 z4 z5 z6,v = .agg #[.slice a0 n0 c0,.slice a1 n1 c1,.slice a2 n2 c2,.slice a3 n3 c3,.int .i64 z4,.int .i64 z5,.int .i64 z6]/\r0.length=n0/\NiceS W a0 n0 c0/\RowsE (xX W) 1 a0 r0/\r1.length=n1/\NiceS W a1 n1 c1/\RowsE (xX W) 5 a1 r1/\r2.length=n2/\NiceS W a2 n2 c2/\RowsE (xX W) 4 a2 r2/\r3.length=n3/\NiceS W a3 n3 c3/\RowsE (xX W) 1 a3 r3/\I64 z4/\I64 z5/\I64 z6:=by
 obtain⟨fuel,hf⟩:=h;simp only[Value.okWide,Tryz.underlying27] at hv;obtain⟨cs,rfl,hsz,ts,hts,_,hc⟩:=hv;have e2:Tryz.prog.cellTypes Tryz.prog.depth 27=some [22,23,24,22,3,3,3]:=kR
 rw[e2] at hts;cases hts;have e3:Tryz.prog.cellsOf 27=7:=kR
 rw[e3] at hsz;obtain⟨l⟩:=cs
 match l,hsz with
 |[x0,x1,x2,x3,x4,x5,x6],_=>
  have u0:∃t,[22,23,24,22,3,3,3][0]? = some t/\Cell.okWide Tryz.prog W r b0 t x0:=by
   obtain⟨t,h1,h2⟩:=hc 0 x0 rfl;exact⟨t,h1,h2⟩
  obtain⟨t0,e0,w0⟩:=u0;have:t0=22:=by simpa using e0.symm
  subst this;have u1:∃t,[22,23,24,22,3,3,3][1]? = some t/\Cell.okWide Tryz.prog W r b0 t x1:=by
   obtain⟨t,h1,h2⟩:=hc 1 x1 rfl;exact⟨t,h1,h2⟩
  obtain⟨t1,e1,w1⟩:=u1;have:t1=23:=by simpa using e1.symm
  subst this;have u2:∃t,[22,23,24,22,3,3,3][2]? = some t/\Cell.okWide Tryz.prog W r b0 t x2:=by
   obtain⟨t,h1,h2⟩:=hc 2 x2 rfl;exact⟨t,h1,h2⟩
  obtain⟨t2,e2,w2⟩:=u2;have:t2=24:=by simpa using e2.symm
  subst this;have u3:∃t,[22,23,24,22,3,3,3][3]? = some t/\Cell.okWide Tryz.prog W r b0 t x3:=by
   obtain⟨t,h1,h2⟩:=hc 3 x3 rfl;exact⟨t,h1,h2⟩
  obtain⟨t3,e3,w3⟩:=u3;have:t3=22:=by simpa using e3.symm
  subst this;have u4:∃t,[22,23,24,22,3,3,3][4]? = some t/\Cell.okWide Tryz.prog W r b0 t x4:=by
   obtain⟨t,h1,h2⟩:=hc 4 x4 rfl;exact⟨t,h1,h2⟩
  obtain⟨t4,e4,w4⟩:=u4;have:t4=3:=by simpa using e4.symm
  subst this;have u5:∃t,[22,23,24,22,3,3,3][5]? = some t/\Cell.okWide Tryz.prog W r b0 t x5:=by
   obtain⟨t,h1,h2⟩:=hc 5 x5 rfl;exact⟨t,h1,h2⟩
  obtain⟨t5,e5,w5⟩:=u5;have:t5=3:=by simpa using e5.symm
  subst this;have u6:∃t,[22,23,24,22,3,3,3][6]? = some t/\Cell.okWide Tryz.prog W r b0 t x6:=by
   obtain⟨t,h1,h2⟩:=hc 6 x6 rfl;exact⟨t,h1,h2⟩
  obtain⟨t6,e6,w6⟩:=u6;have:t6=3:=by simpa using e6.symm
  subst this;obtain⟨xs,m,_,hx,_,hlen,hfs⟩:=DataW.trod_struct Tryz.underlying27 hf;have hd:d = .agg (xs.map (·.1)):=by simpa using congrArg Prod.fst hx
  have g_0:∃y,xs[0]? = some y/\DataW.trod enc Tryz.prog W 0 (fun _=>true) true m 22 [x0]=some y:=by
   have hy:∃y,xs[0]? = some y:=⟨xs[0]'(by rw[hlen];decide),List.getElem?_eq_getElem _⟩;obtain⟨y,hy⟩:=hy;have h4:=hfs 0 _ rfl;rw[hy] at h4;have e4:Tryz.prog.cellsOf 22=1:=kR
   exact⟨y,hy,by simpa [e4,Value.cells] using h4⟩
  obtain⟨⟨d_0,p_0⟩,gy_0,g_0⟩:=g_0;obtain⟨a0,n0,c0,rfl,hN0⟩:=oF Tryz.underlying22 w0;have hz_0:∀x∈DataW.weights Tryz.prog 22 d_0,x<=reachBytes:=fun x hx'=>hz x (by
   rw[hd];simp only[DataW.weights,Tryz.underlying27];exact DataW.weights_mem_each (j:=0) (t:=22) J (by rw[List.getElem?_map,gy_0];rfl) x hx')
  obtain⟨r0,f0,k0,_⟩:=Ee (w:=1) (bytes:=8) Tryz.underlying22 kR dE kR dE (iV Tryz.underlying3) hN0 g_0 hz_0;have g_1:∃y,xs[1]? = some y/\DataW.trod enc Tryz.prog W 0 (fun _=>true) true m 23 [x1]=some y:=by
   have hy:∃y,xs[1]? = some y:=⟨xs[1]'(by rw[hlen];decide),List.getElem?_eq_getElem _⟩;obtain⟨y,hy⟩:=hy;have h4:=hfs 1 _ rfl;rw[hy] at h4;have e4:Tryz.prog.cellsOf 23=1:=kR
   exact⟨y,hy,by simpa [e4,Value.cells] using h4⟩
  obtain⟨⟨d_1,p_1⟩,gy_1,g_1⟩:=g_1;obtain⟨a1,n1,c1,rfl,hN1⟩:=oF Tryz.underlying23 w1;have hz_1:∀x∈DataW.weights Tryz.prog 23 d_1,x<=reachBytes:=fun x hx'=>hz x (by
   rw[hd];simp only[DataW.weights,Tryz.underlying27];exact DataW.weights_mem_each (j:=1) (t:=23) J (by rw[List.getElem?_map,gy_1];rfl) x hx')
  obtain⟨r1,f1,k1,_⟩:=Ee (w:=5) (bytes:=40) Tryz.underlying23 kR dE kR dE Na hN1 g_1 hz_1;have g_2:∃y,xs[2]? = some y/\DataW.trod enc Tryz.prog W 0 (fun _=>true) true m 24 [x2]=some y:=by
   have hy:∃y,xs[2]? = some y:=⟨xs[2]'(by rw[hlen];decide),List.getElem?_eq_getElem _⟩;obtain⟨y,hy⟩:=hy;have h4:=hfs 2 _ rfl;rw[hy] at h4;have e4:Tryz.prog.cellsOf 24=1:=kR
   exact⟨y,hy,by simpa [e4,Value.cells] using h4⟩
  obtain⟨⟨d_2,p_2⟩,gy_2,g_2⟩:=g_2;obtain⟨a2,n2,c2,rfl,hN2⟩:=oF Tryz.underlying24 w2;have hz_2:∀x∈DataW.weights Tryz.prog 24 d_2,x<=reachBytes:=fun x hx'=>hz x (by
   rw[hd];simp only[DataW.weights,Tryz.underlying27];exact DataW.weights_mem_each (j:=2) (t:=24) J (by rw[List.getElem?_map,gy_2];rfl) x hx')
  obtain⟨r2,f2,k2,_⟩:=Ee (w:=4) (bytes:=32) Tryz.underlying24 kR dE kR dE Nb hN2 g_2 hz_2;have g_3:∃y,xs[3]? = some y/\DataW.trod enc Tryz.prog W 0 (fun _=>true) true m 22 [x3]=some y:=by
   have hy:∃y,xs[3]? = some y:=⟨xs[3]'(by rw[hlen];decide),List.getElem?_eq_getElem _⟩;obtain⟨y,hy⟩:=hy;have h4:=hfs 3 _ rfl;rw[hy] at h4;have e4:Tryz.prog.cellsOf 22=1:=kR
   exact⟨y,hy,by simpa [e4,Value.cells] using h4⟩
  obtain⟨⟨d_3,p_3⟩,gy_3,g_3⟩:=g_3;obtain⟨a3,n3,c3,rfl,hN3⟩:=oF Tryz.underlying22 w3;have hz_3:∀x∈DataW.weights Tryz.prog 22 d_3,x<=reachBytes:=fun x hx'=>hz x (by
   rw[hd];simp only[DataW.weights,Tryz.underlying27];exact DataW.weights_mem_each (j:=3) (t:=22) J (by rw[List.getElem?_map,gy_3];rfl) x hx')
  obtain⟨r3,f3,k3,_⟩:=Ee (w:=1) (bytes:=8) Tryz.underlying22 kR dE kR dE (iV Tryz.underlying3) hN3 g_3 hz_3;have g_4:∃y,xs[4]? = some y/\DataW.trod enc Tryz.prog W 0 (fun _=>true) true m 25 [x4,x5,x6]=some y:=by
   have hy:∃y,xs[4]? = some y:=⟨xs[4]'(by rw[hlen];decide),List.getElem?_eq_getElem _⟩;obtain⟨y,hy⟩:=hy;have h4:=hfs 4 _ rfl;rw[hy] at h4;have e4:Tryz.prog.cellsOf 25=3:=kR
   exact⟨y,hy,by simpa [e4,Value.cells] using h4⟩
  obtain⟨⟨d_4,p_4⟩,gy_4,g_4⟩:=g_4;have hz_4:∀x∈DataW.weights Tryz.prog 25 d_4,x<=reachBytes:=fun x hx'=>hz x (by
   rw[hd];simp only[DataW.weights,Tryz.underlying27];exact DataW.weights_mem_each (j:=4) (t:=25) J (by rw[List.getElem?_map,gy_4];rfl) x hx')
  obtain⟨xs_4,m_4,_,hx_4,_,hlen_4,hfs_4⟩:=DataW.trod_array Tryz.underlying25 g_4;have hd_4:d_4 = .agg (xs_4.map (·.1)):=by simpa using congrArg Prod.fst hx_4
  have g_4_0:∃y,xs_4[0]? = some y/\DataW.trod enc Tryz.prog W 0 (fun _=>true) true m_4 3 [x4]=some y:=by
   have hy:∃y,xs_4[0]? = some y:=⟨xs_4[0]'(by rw[hlen_4];decide),List.getElem?_eq_getElem _⟩;obtain⟨y,hy⟩:=hy;have h4:=hfs_4 0 oM;rw[hy] at h4;have e4:Tryz.prog.cellsOf 3=1:=kR
   exact⟨y,hy,by simpa [e4,Value.cells] using h4⟩
  obtain⟨⟨d_4_0,p_4_0⟩,gy_4_0,g_4_0⟩:=g_4_0;obtain⟨l_4_0,q_4_0,ql_4_0,wf_4_0⟩:=iV (P:=Tryz.prog) Tryz.underlying3 g_4_0;obtain⟨z4,rfl⟩:∃z,l_4_0=[z]:=by
   match l_4_0,ql_4_0 with
   |[z],_=>exact⟨z,rfl⟩
  simp at q_4_0;subst q_4_0;have hi4:I64 z4:=wf_4_0 _ sM;have g_4_1:∃y,xs_4[1]? = some y/\DataW.trod enc Tryz.prog W 0 (fun _=>true) true m_4 3 [x5]=some y:=by
   have hy:∃y,xs_4[1]? = some y:=⟨xs_4[1]'(by rw[hlen_4];decide),List.getElem?_eq_getElem _⟩;obtain⟨y,hy⟩:=hy;have h4:=hfs_4 1 oM;rw[hy] at h4;have e4:Tryz.prog.cellsOf 3=1:=kR
   exact⟨y,hy,by simpa [e4,Value.cells] using h4⟩
  obtain⟨⟨d_4_1,p_4_1⟩,gy_4_1,g_4_1⟩:=g_4_1;obtain⟨l_4_1,q_4_1,ql_4_1,wf_4_1⟩:=iV (P:=Tryz.prog) Tryz.underlying3 g_4_1;obtain⟨z5,rfl⟩:∃z,l_4_1=[z]:=by
   match l_4_1,ql_4_1 with
   |[z],_=>exact⟨z,rfl⟩
  simp at q_4_1;subst q_4_1;have hi5:I64 z5:=wf_4_1 _ sM;have g_4_2:∃y,xs_4[2]? = some y/\DataW.trod enc Tryz.prog W 0 (fun _=>true) true m_4 3 [x6]=some y:=by
   have hy:∃y,xs_4[2]? = some y:=⟨xs_4[2]'(by rw[hlen_4];decide),List.getElem?_eq_getElem _⟩;obtain⟨y,hy⟩:=hy;have h4:=hfs_4 2 oM;rw[hy] at h4;have e4:Tryz.prog.cellsOf 3=1:=kR
   exact⟨y,hy,by simpa [e4,Value.cells] using h4⟩
  obtain⟨⟨d_4_2,p_4_2⟩,gy_4_2,g_4_2⟩:=g_4_2;obtain⟨l_4_2,q_4_2,ql_4_2,wf_4_2⟩:=iV (P:=Tryz.prog) Tryz.underlying3 g_4_2;obtain⟨z6,rfl⟩:∃z,l_4_2=[z]:=by
   match l_4_2,ql_4_2 with
   |[z],_=>exact⟨z,rfl⟩
  simp at q_4_2;subst q_4_2;have hi6:I64 z6:=wf_4_2 _ sM;exact⟨a0,n0,c0,r0,a1,n1,c1,r1,a2,n2,c2,r2,a3,n3,c3,r3,z4,z5,z6,rfl,f0,hN0,k0,f1,hN1,k1,f2,hN2,k2,f3,hN3,k3,hi4,hi5,hi6⟩
end
end Go.Proofs.YtjkdkpckjgaplaaGreat.Ev
namespace Go.Proofs.YtjkdkpckjgaplaaGreat.Ev
open Go Go.RowKit Go.ChangeShapes Go.WideShapes Go.ChangeAt Go.Joins
set_option linter.unusedVariables false
noncomputable section
theorem Nc{H:Type}{P:Program}{enc:TypeId×Value->H}{W:World}{t e fuel:Nat}{cs:List Value}{x:DataW H×List MemPlace}(ht:P.underlying t=some (.slice e))(hc:P.cellsOf e=1)
 (hf:DataW.trod enc P W 0 (fun _=>true) true fuel t cs=some x):∃a n c,cs=[.slice a n c]/\(NiceS W a n c∨∃a',a=some a'/\n=0/\c=0):=by
 rcases Go.Deep.open_slice ht hf with ⟨hcs,_⟩|⟨a',l,c,m,fu,D,Pl,hcs,_,hl,hm,hmm,hd,hel⟩
 ·exact⟨none,0,0,hcs,.inl (.inl ⟨rfl,rfl,rfl⟩)⟩
 ·refine⟨some a',l,c,hcs,?_⟩
  have hmc:m=c:=by rw[hmm];rfl
  by_cases h0:c=0
  ·exact .inr ⟨a',rfl,oM,h0⟩
  ·obtain⟨cs',h1,_⟩:=hel 0 oM
   rw[hc] at h1;obtain⟨_,h4,h3⟩:=World.cells?_some h1;have h5:=h3 0 dE;have h6:∃v,W.cell? ((a'.add (0*1)).add 0)=some v:=by
    cases hq:cs' with
    |nil=>rw[hq] at h4;simp at h4
    |cons v l'=>rw[hq] at h5;exact⟨v,h5⟩
   obtain⟨v,hv⟩:=h6;have hsp:a'.spot=none:=by have:=World.cell?_spot hv;simpa [Addr.add] using this
   obtain⟨b,o,sp⟩:=a';have hsp':sp=none:=hsp;subst hsp';have hv2:W.cell? ⟨b,o,none⟩=some v:=by simpa [Addr.add] using hv
   unfold World.cell? at hv2;dsimp only at hv2;split at hv2
   ·rename_i cs2 e2 fr2 hh
    refine .inl (.inr ⟨b,o,cs2,e2,fr2,rfl,by first|exact hh|exact hh.1,?_⟩);exact Nat.lt_of_le_of_lt hm dE
   ·cases hv2
theorem EO{H:Type}{P:Program}{e:TypeId}:∀{l:List (DataW H)} {d:DataW H},d∈l->∀n∈d.weights P e,n∈DataW.weightsAll P e l
 |x::l,d,h,n,hn=>by
  simp only[DataW.weightsAll,List.mem_append];rcases List.mem_cons.1 h with rfl|h
  ·exact .inl hn
  ·exact .inr (EO h n hn)
theorem Wz{H:Type}{P:Program}{enc:TypeId×Value->H}{W:World}{t e i:Nat}(ht:P.underlying t=some (.slice e))(hc:P.cellsOf e=1)(hby:P.bytesOf e=24)(he:P.underlying e=some (.slice i))(hi:P.underlying i=some (.int .i64))(hic:P.cellsOf i=1)(hib:P.bytesOf i=8)
 {a:Option Addr} {n cap fuel:Nat} (hv:NiceS W a n cap) {d:DataW H} {p:List MemPlace} (hf:DataW.trod enc P W 0 (fun _=>true) true fuel t [.slice a n cap]=some (d,p)) (hz:∀x∈DataW.weights P t d,x<=reachBytes):∃M:List (List Int),M.length=n/\pI (xX W) a M:=by
 rcases Go.Deep.open_slice ht hf with ⟨hcs,_⟩|⟨a',l,c,m,fu,D,Pl,hcs,_,hl,hm,hmm,hd,hel⟩
 ·simp at hcs
  obtain⟨rfl,rfl,rfl⟩:=hcs;exact⟨[],rfl,⟨hv.spot,fun k hk=>absurd hk (Nat.not_lt_zero k),sM⟩⟩
 ·simp at hcs
  obtain⟨rfl,rfl,rfl⟩:=hcs;have hmc:m=cap:=by rw[hmm];rfl
  simp only[Prod.mk.injEq] at hd;obtain⟨rfl,_⟩:=hd;have hbytes:n*24<=140737488355328:=by
   have:=hz _ (by simp only[DataW.weights,ht];exact List.mem_cons_self);rw[hby] at this;simp only[List.length_map,List.length_range,reachBytes] at this;have e1:n+(m-n)=m:=oM
   rw[e1] at this;have:=Nat.mul_le_mul_right 24 (show n<=m from oM);omega
  have hch:∀k,∃q:List Int×Option Addr×Nat,k<n->aN (xX W) q.2.1 q.1/\∀b o,a'=⟨b,o,none⟩->At (xX W) b (o+k*1) (.slice q.2.1 q.1.length q.2.2):=by
   intro k;by_cases hk:k<n
   ·obtain⟨cs',h1,h2⟩:=hel k oM
    obtain⟨ai,ni,ci,hcs',hni⟩:=Nc he hic h2;rw[hcs'] at h1 h2;rw[hc] at h1;obtain⟨_,_,h3⟩:=World.cells?_some h1;have h4:W.cell? ((a'.add (k*1)).add 0)=some (.slice ai ni ci):=h3 0 dE;have h5:∀b o,a'=⟨b,o,none⟩->W.cell? ⟨b,o+k*1,none⟩=some (.slice ai ni ci):=fun b o hb=>by
     rw[hb,tO,tO,Nat.add_zero] at h4;exact h4
    rcases hni with hni|⟨a2,rfl,rfl,rfl⟩
    ·have hz2:∀x∈DataW.weights P e (D k),x<=reachBytes:=fun x hx=>hz x (by
      simp only[DataW.weights,ht];exact List.mem_cons_of_mem _ (List.mem_append_left _ (EO (List.mem_map.2 ⟨k,List.mem_range.2 hk,rfl⟩) x hx)))
     obtain⟨rs,f,R,_⟩:=Ee (w:=1) (bytes:=8) he hic dE hib dE (iV hi) hni h2 hz2;refine⟨⟨rs.map (fun r=>r.getD 0 0),ai,ci⟩,fun _=>⟨Dr R,fun b o hb=>?_⟩⟩;show At _ _ _ (.slice ai (rs.map (fun r=>r.getD 0 0)).length ci);rw[List.length_map,f];exact Bg (h5 b o hb) hni.vr rfl
    ·by_cases hb:∃b o,a'=⟨b,o,none⟩
     ·obtain⟨b,o,hb⟩:=hb
      obtain⟨ai,ci,g1,g2⟩:=Ix (h5 b o hb);refine⟨⟨[],ai,ci⟩,fun _=>⟨⟨g2,fun q=>absurd rfl q,fun _ _ _=>trivial,sM,(show(0:Nat)<140737488355328 from dE)⟩,fun b' o' hb'=>?_⟩⟩;rw[hb] at hb';cases hb';exact g1
     ·exact⟨⟨[],none,0⟩,fun _=>⟨aN.nil,fun b o q=>absurd ⟨b,o,q⟩ hb⟩⟩
   ·exact⟨⟨[],none,0⟩,fun q=>absurd q hk⟩
  obtain⟨Q,hQ⟩:∃Q:Nat->List Int×Option Addr×Nat,∀k,k<n->aN (xX W) (Q k).2.1 (Q k).1/\∀b o,a'=⟨b,o,none⟩->At (xX W) b (o+k*1) (.slice (Q k).2.1 (Q k).1.length (Q k).2.2):=⟨fun k=>(hch k).choose,fun k=>(hch k).choose_spec⟩;refine⟨(List.range n).map fun k=>(Q k).1,sM,hv.spot,fun k hk=>?_,by simp;omega⟩;have hk':k<n:=by simpa using hk
  have hsp:=hv.spot a' rfl;obtain⟨b,o,sp⟩:=a';have hsp':sp=none:=hsp;subst hsp';have e:((List.range n).map fun k=>(Q k).1).getD k []=(Q k).1:=by rw[List.getD_eq_getElem?_getD,List.getElem?_map,List.getElem?_range hk'];rfl
  rw[e];exact⟨b,o,(Q k).2.1,(Q k).2.2,rfl,(hQ k hk').2 b o rfl,(hQ k hk').1⟩
end
end Go.Proofs.YtjkdkpckjgaplaaGreat.Ev
namespace Go.Proofs.YtjkdkpckjgaplaaGreat.Ev
open Go Go.RowKit Go.ChangeShapes Go.WideShapes Go.ChangeAt Go.Joins
set_option linter.unusedVariables false
noncomputable section
variable{H:Type}{enc:TypeId×Value->H}
set_option maxRecDepth 100000 in
theorem RB{W:World}:sW H Tryz.prog enc W 70 6:=by
 intro base fuel sp held cs x h;obtain⟨xs,m,_,_,hl,hxl,hxi⟩:=DataW.trod_array Tryz.underlying70 h;have e3:Tryz.prog.cellsOf 70=6:=kR
 have e4:Tryz.prog.cellsOf 3=1:=kR
 rw[e3] at hl
 match cs,hl with
 |[c0,c1,c2,c3,c4,c5],_=>
  have g0:=hxi 0 oM;rw[e4] at g0;have g1:=hxi 1 oM;rw[e4] at g1;have g2:=hxi 2 oM;rw[e4] at g2;have g3:=hxi 3 oM;rw[e4] at g3;have g4:=hxi 4 oM;rw[e4] at g4;have g5:=hxi 5 oM;rw[e4] at g5
  match xs,hxl with
  |[y0,y1,y2,y3,y4,y5],_=>
   obtain⟨z0,q0,_,w0⟩:=DataW.trod_int Tryz.underlying3 (show DataW.trod enc Tryz.prog W base sp held m 3 [c0]=some y0 from g0);obtain⟨z1,q1,_,w1⟩:=DataW.trod_int Tryz.underlying3 (show DataW.trod enc Tryz.prog W base sp held m 3 [c1]=some y1 from g1);obtain⟨z2,q2,_,w2⟩:=DataW.trod_int Tryz.underlying3 (show DataW.trod enc Tryz.prog W base sp held m 3 [c2]=some y2 from g2);obtain⟨z3,q3,_,w3⟩:=DataW.trod_int Tryz.underlying3 (show DataW.trod enc Tryz.prog W base sp held m 3 [c3]=some y3 from g3);obtain⟨z4,q4,_,w4⟩:=DataW.trod_int Tryz.underlying3 (show DataW.trod enc Tryz.prog W base sp held m 3 [c4]=some y4 from g4);obtain⟨z5,q5,_,w5⟩:=DataW.trod_int Tryz.underlying3 (show DataW.trod enc Tryz.prog W base sp held m 3 [c5]=some y5 from g5);simp at q0 q1 q2 q3 q4 q5;subst q0;subst q1;subst q2;subst q3;subst q4;subst q5;exact⟨[z0,z1,z2,z3,z4,z5],rfl,rfl,fun z hz=>by simp at hz;rcases hz with rfl|rfl|rfl|rfl|rfl|rfl <;> first|exact jC w0|exact jC w1|exact jC w2|exact jC w3|exact jC w4|exact jC w5⟩
set_option maxRecDepth 100000 in
theorem II{W:World}{r:Reach}{b0:Nat}{v:Value}{d:DataW H}{p:List MemPlace}(hv:Value.okWide Tryz.prog W r b0 70 v)(h:DataW.Trod enc Tryz.prog W 0 (fun _=>true) true 70 v d p):∃z0 z1 z2 z3 z4 z5,v = .agg #[.int .i64 z0,.int .i64 z1,.int .i64 z2,.int .i64 z3,.int .i64 z4,.int .i64 z5]:=by
 obtain⟨fuel,hf⟩:=h;simp only[Value.okWide,Tryz.underlying70] at hv;obtain⟨⟨l⟩,rfl,_⟩:=hv;obtain⟨zs,h1,h2,h3⟩:=RB hf
 match zs,h2,h3 with
 |[z0,z1,z2,z3,z4,z5],_,h3=>exact⟨z0,z1,z2,z3,z4,z5,by have:l=[.int .i64 z0,.int .i64 z1,.int .i64 z2,.int .i64 z3,.int .i64 z4,.int .i64 z5]:=h1;rw[this]⟩
set_option maxRecDepth 100000 in
set_option maxHeartbeats 2000000 in
theorem IJ{W:World}{r:Reach}{b0:Nat}{v:Value}{d:DataW H}{p:List MemPlace}(hv:Value.okWide Tryz.prog W r b0 69 v)(h:DataW.Trod enc Tryz.prog W 0 (fun _=>true) true 69 v d p)(hz:∀x∈DataW.weights Tryz.prog 69 d,x<=reachBytes) :
 ∃a0 n0 c0 r0,v = .agg #[.slice a0 n0 c0]/\r0.length=n0/\NiceS W a0 n0 c0/\pI (xX W) a0 r0:=by
 obtain⟨fuel,hf⟩:=h;simp only[Value.okWide,Tryz.underlying69] at hv;obtain⟨cs,rfl,hsz,ts,hts,_,hc⟩:=hv;have e2:Tryz.prog.cellTypes Tryz.prog.depth 69=some [67]:=kR
 rw[e2] at hts;cases hts;have e3:Tryz.prog.cellsOf 69=1:=kR
 rw[e3] at hsz;obtain⟨l⟩:=cs
 match l,hsz with
 |[x0],_=>
  have u0:∃t,[67][0]? = some t/\Cell.okWide Tryz.prog W r b0 t x0:=by
   obtain⟨t,h1,h2⟩:=hc 0 x0 rfl;exact⟨t,h1,h2⟩
  obtain⟨t0,e0,w0⟩:=u0;have:t0=67:=by simpa using e0.symm
  subst this;obtain⟨xs,m,_,hx,_,hlen,hfs⟩:=DataW.trod_struct Tryz.underlying69 hf;have hd:d = .agg (xs.map (·.1)):=by simpa using congrArg Prod.fst hx
  have g_0:∃y,xs[0]? = some y/\DataW.trod enc Tryz.prog W 0 (fun _=>true) true m 67 [x0]=some y:=by
   have hy:∃y,xs[0]? = some y:=⟨xs[0]'(by rw[hlen];decide),List.getElem?_eq_getElem _⟩;obtain⟨y,hy⟩:=hy;have h4:=hfs 0 _ rfl;rw[hy] at h4;have e4:Tryz.prog.cellsOf 67=1:=kR
   exact⟨y,hy,by simpa [e4,Value.cells] using h4⟩
  obtain⟨⟨d_0,p_0⟩,gy_0,g_0⟩:=g_0;obtain⟨a0,n0,c0,rfl,hN0⟩:=oF Tryz.underlying67 w0;have hz_0:∀x∈DataW.weights Tryz.prog 67 d_0,x<=reachBytes:=fun x hx'=>hz x (by
   rw[hd];simp only[DataW.weights,Tryz.underlying69];exact DataW.weights_mem_each (j:=0) (t:=67) J (by rw[List.getElem?_map,gy_0];rfl) x hx')
  obtain⟨r0,f0,k0⟩:=Wz Tryz.underlying67 kR kR Tryz.underlying22 Tryz.underlying3 kR kR hN0 g_0 hz_0;exact⟨a0,n0,c0,r0,rfl,f0,hN0,k0⟩
end
end Go.Proofs.YtjkdkpckjgaplaaGreat.Ev
namespace Go.Proofs.YtjkdkpckjgaplaaGreat
open Go Go.RowKit
namespace Ev
set_option maxRecDepth 1000000 in
set_option maxHeartbeats 0 in
theorem Nd:Ue Tryz.prog bZ 60000 6=true:=kR
end Ev
theorem TK(w:World):Calls Tryz.prog 6 #[] w fun e w'=>e = .returned (.bool true)/\Below w.heap.size w w':=Ev.Sw Ev.A0 Ev.Nd w
end Go.Proofs.YtjkdkpckjgaplaaGreat
