/- Texts side by side. -/
import Derived.Test.YtcccdikhfgpamaaGreatUfaq
set_option linter.unusedVariables false
set_option linter.unusedSimpArgs false
set_option maxRecDepth 100000
set_option maxHeartbeats 16000000
namespace Go.Proofs.YtcccdikhfgpamaaGreat
open Kap Abv Lax Go.ChangeShapes Go.WideShapes Go.ChangeAt Go.RowKit Mem Tre Ref3 Law3 Fix3 Cfg Crd CrdB CrdC Rr4 Bkp Bks Bcl Dlk Stk Apt Bko Bku Bka Bkc Mdp Mdz Mds Lat
namespace Mdn
def hasF(n:Nat)(i:Int):Bool:=decide (0≤i)&&decide (i<(n:Int))
theorem has_any(A:Option Addr)(n c:Nat)(i:Int)(w:World)(hn:n≤1000000)(hi:inI i):
  Calls Tryz.prog 86 #[.slice A n c,.int .i64 i] w (fun e w'=>e= .returned (.bool (hasF n i))∧w'=w):=by
 have a:wrap64 (n:Int)=(n:Int):=by unfold wrap64;omega
 have b:hasF n i=(decide (0≤i)&&decide (i<(n:Int))):=rfl
 go_enter Tryz.func86,Tryz.ntmps86
 by_cases h0:0≤i
 ·have e:hasF n i=decide (i<(n:Int)):=by simp[hasF,h0]
  rw[e]
  go_wp2_with fail
  exact bodyPost_ret (v:= .bool (decide (i<(n:Int)))) (by simp[results,Tryz.results86,go_sem,a]) rfl ⟨rfl,rfl⟩
 ·have e:hasF n i=false:=by simp[hasF];omega
  rw[e]
  go_wp2_with fail
  exact bodyPost_ret (v:= .bool false) (by simp[results,Tryz.results86,go_sem,a]) rfl ⟨rfl,rfl⟩
theorem shardOf_any(base g:Nat)(q:Mq)(i:Int)(w:World)(h:Hid (Mm base w g q))(hi:inI i)(hn:1≤q.nb∧q.nb≤1000):
  Calls Tryz.prog 96 #[.pointer (some ⟨g,0,none⟩),.int .i64 i] w (fun e w'=>e= .returned (.int .i64 (i.tmod (q.nb:Int)))∧w'=w):=by
 obtain⟨j,k,l,m,A,B,C,n,o,p,c,d,f,T,U,V,r,nb,s,W,t,x,y,z,E,F,X,Y,G,a⟩:=q;have H:Hid (Blk w g 144 (vQ j k l m A n c B o d C p f r nb s t y E x z F G a)):=h.o.blk;simp only at hn;have I:wrap64 (nb:Int)=(nb:Int):=by unfold wrap64;omega
 have J: ¬(nb:Int)=0:=by omega
 have K: ¬nb=0:=by omega
 have L:wrap64 (i.tmod (nb:Int))=i.tmod (nb:Int):=by
  have Z:=Int.tmod_lt_of_pos i (b:=(nb:Int)) (by omega);have a2: -(nb:Int)<i.tmod (nb:Int):=by have:=Int.lt_tmod_of_pos i (b:=(nb:Int)) (by omega);omega
  unfold wrap64;omega
 go_enter Tryz.func96,Tryz.ntmps96
 obtain⟨k0,k1,k2,k3,k4,k5,k6,O,k8,k9,P,Q,f0,f1,f2,f3,f4,f5,f6,f7,f8,f9,R,S⟩:=q12_of H.o
 go_wp2_with fail
 exact bodyPost_ret (v:= ι (i.tmod (nb:Int))) (by simp[results,Tryz.results96,go_sem,O,I,J,K,L]) rfl ⟨rfl,rfl⟩
end Mdn
namespace Mdk
open Bkf Bkq Mdn Mdo
open Rul1 hiding below_step
def shN(p:Pm)(i:Int):Nat:=(i.tmod (p.bs.length:Int)).toNat
def canF(p:Pm)(i:Int):Pm×(Int×Int×List (Int×Int)):=
 if (cancelF (gB p.bs (shN p i)) i).2≠0 then (p,((cancelF (gB p.bs (shN p i)) i).2,0,[]))
 else ({p with bs:=p.bs.set (shN p i) (cancelF (gB p.bs (shN p i)) i).1},(0,0,[(1,i)]))
variable {b:Bk} {i:Int} {s:Nat} {p:Pm}
theorem can_no{c:Int}(hs:shN p i=s)(hb:gB p.bs s=b)(hc:(cancelF b i).2=c)(h:c≠0):canF p i=(p,(c,0,[])):=by
 unfold canF;rw[hs,hb,hc,if_pos h]
theorem can_yes(hs:shN p i=s)(hb:gB p.bs s=b)(h:(cancelF b i).2=0):canF p i=({p with bs:=p.bs.set s (cancelF b i).1},(0,0,[(1,i)])):=by
 unfold canF;rw[hs,hb,if_neg (by rw[h];decide)]
theorem shN_of{n k:Nat}(hn:n=p.bs.length)(h:i.tmod (n:Int)=(k:Int)):shN p i=k:=by unfold shN;rw[←hn,h];rfl
theorem tmod_at(i:Int)(n:Nat)(hi:0≤i)(hn:1≤n): ∃k:Nat,i.tmod (n:Int)=(k:Int)∧k<n:=by
 have a:=Int.tmod_lt_of_pos i (b:=(n:Int)) (by omega);have c:0≤i.tmod (n:Int):=Int.tmod_nonneg _ hi;exact⟨(i.tmod (n:Int)).toNat,by omega,by omega⟩
theorem mcancel_any(base g m:Nat)(q:Mq)(i:Int)(w:World)(h:Hid (Mm base w g q))(hv:Hid (Vq m q))(hm:m≤900)(hi0:0≤i)(hi1:i≤9223372036854775807):
  Calls Tryz.prog 56 #[.pointer (some ⟨g,0,none⟩),.int .i64 i] w (MadeDo base g q (canF (plO q) i).1 (canF (plO q) i).2.1 (canF (plO q) i).2.2.1 (canF (plO q) i).2.2.2 w):=by
 obtain⟨Y,Z,ra,ta,A,B,C,S,T,U,c,d,f,nd,ac,sy,Ab,G,K,F,An,Au,V,W,d1,d2,cl,cu,ep,t⟩:=q;obtain⟨v1,v2,bg,v3,v4,v5,v6,v7,v8,v9,aS⟩:=hv.o;obtain⟨l1,l2,l3,l4,l5,l6⟩:=(⟨h.o.l1,h.o.l2,h.o.l3,h.o.l4,h.o.l5,h.o.l6⟩:S=nd.length∧T=ac.length∧U=sy.length∧G=F.length∧V=cl.length∧W=cu.length);have L1:=κ l1;have L2:=κ l2;have L3:=κ l3;have L4:=κ l4;have L5:=κ l5;have L6:=κ l6;have V4:=κ v4;have V5:=κ v5;have V7:=κ v7;have V9:=κ v9;have bE:=κ aS;simp only at v1 v2 bg v3 v6 v8;obtain⟨k,aT⟩:=own_at h.o.row (by show 0<G;simp only at v7;omega);simp only at aT;subst aT;have bh:G≤1000∧1≤G:=by simp only at v7;omega
 clear l1 l2 l3 l4 l5 l6 v4 v5 v7 v9 aS;have U0:=κ (β w (.cells (vI 0 0) 74));have Z0:=κ (Blk.fresh w 74 (vI 0 0));have M0:=κ (Mm_below h.o U0.o);have MZ:=κ (Mz_of h.o τ)
 go_enter Tryz.func56,Tryz.ntmps56
 go_upto_region 1 with fail
 generalize aU:w.heap.size=gZ at Z0 MZ ⊢;have bF:=κ aU;have ai:Hid (w.heap.size≤gZ):=by show _≤_;omega
 clear aU;generalize (w.alloc (.cells (vI 0 0) 74))=w0 at Z0 U0 M0 ⊢;have K0:Hid (Blk w0 g 144 (vQ Y Z ra ta A S c B T d C U f (some (α k 0)) G K An V d1 Au W d2 ep t)):=M0.o.blk;obtain⟨k0,k1,k2,k3,k4,k5,k6,k7,k8,k9,bi,bj,f0,f1,f2,f3,f4,f5,f6,f7,f8,f9,bk,bl⟩:=q12_of K0.o;have aj:=shardOf_any base g ⟨Y,Z,ra,ta,A,B,C,S,T,U,c,d,f,nd,ac,sy,some (α k 0),G,K,F,An,Au,V,W,d1,d2,cl,cu,ep,t⟩ i w0 M0 ⟨by omega,hi1⟩ (by show 1≤G∧G≤1000;omega);obtain⟨j,ax,bn⟩:=tmod_at i G hi0 bh.2;simp only at aj;rw[ax]at aj;have aV:Hid (shN (plO ⟨Y,Z,ra,ta,A,B,C,S,T,U,c,d,f,nd,ac,sy,some (α k 0),G,K,F,An,Au,V,W,d1,d2,cl,cu,ep,t⟩) i=j):=shN_of (n:=G) (by show G=(F.map Bx.b).length;rw[List.length_map];exact L4.o) ax;clear ax;have y:Hid (j<F.length):=by show _<_;rw[←L4.o];exact bn
 have ad:=own_room M0.o.row;have c0:=ad.2.2.2.2.2 (j*4) _ (by have:=bxs_get F j 0 y.o (by decide);exact this);have c1:=ad.2.2.2.2.2 (j*4+1) _ (by have:=bxs_get F j 1 y.o (by decide);exact this);have c2:=ad.2.2.2.2.2 (j*4+2) _ (by have:=bxs_get F j 2 y.o (by decide);exact this);have c3:=ad.2.2.2.2.2 (j*4+3) _ (by have:=bxs_get F j 3 y.o (by decide);exact this);clear ad;have ak:=κ (M0.o.bm j y.o);have VB:=κ (V9.o j y.o)
 have am:Hid (gB (plO ⟨Y,Z,ra,ta,A,B,C,S,T,U,c,d,f,nd,ac,sy,some (α k 0),G,K,F,An,Au,V,W,d1,d2,cl,cu,ep,t⟩).bs j=(gX F j).b):=by
  show(F.map Bx.b).getD j bk0=_;have h1:=y.o;simp[gX,h1]
 obtain⟨X,hX⟩:=ν (gX F j);rw[←hX]at am;simp only at ak VB;rw[←hX]at c0 c1 c2 c3 ak VB;have HX:=κ hX;clear hX;obtain⟨XA,XC,xc,xd,bo,xb⟩:=X;obtain⟨aW,ay⟩:=ν xb.sh;obtain⟨aX,az⟩:=ν xb.ca;obtain⟨bp,aA⟩:=ν xb.rows.length;obtain⟨bq,aB⟩:=ν xb.op.length;simp only[bxV,List.getElem?_cons_zero,List.getElem?_cons_succ]at c0 c1 c2 c3;have aC:Hid (aW=xb.sh∧aX=xb.ca):=⟨ay,az⟩;have aY:=κ aA;have aZ:=κ aB;simp only at VB ak am;have br:=κ (VB.o.1.few (by omega));rw[←ay]at c0;rw[←az]at c1;rw[←aA]at c2;rw[←aB]at c3;clear ay az aA aB;have bG:decide ((j:Int)<(G:Int))=true:=by simp;omega
 have CX:=cancel_any aW aX XA XC bp bq xc xd bo xb i w0 aC aY aZ ak br;obtain⟨P,aD⟩:=ν ((cancelF xb i).1);obtain⟨cc,aE⟩:=ν ((cancelF xb i).2);obtain⟨l,aF⟩:=ν P.sh;obtain⟨E,aG⟩:=ν P.ca;obtain⟨H,aH⟩:=ν P.rows.length;obtain⟨J,aI⟩:=ν P.op.length;unfold MadeB2 at CX;rw[←aD,←aE]at CX
 have a0: ∀A7 C7 I L,bkA A7 C7 I L P= .agg (vB l E A7 H I C7 J L):=by
  intro A7 C7 I L;unfold bkA;rw[aF,aG,aH,aI]
 simp only[a0]at CX;have bt:=κ aD;have a1:=κ aE;have an:Hid (l=P.sh∧E=P.ca∧H=P.rows.length∧J=P.op.length):=⟨aF,aG,aH,aI⟩;clear aD aE aF aG aH aI a0
 go_upto_region 2 with(refine aj.mono ?_;rintro e w1 ⟨rfl,a2⟩;rw[a2];clear a2 w1)
 go_wp2_with fail
 refine CX.mono ?_;rintro e w2 ⟨A7,C7,I,L,O,rfl,aJ,a3,ao⟩;have bu:=κ ao;have N2:=κ aJ;have F7:=κ a3;have U3:=β w2 (.cells (vB l E A7 H I C7 J L) 181);have V3:=κ (Blk.fresh w2 181 (vB l E A7 H I C7 J L));have aK:=κ (CrdB.below_step ao U3);have N7:=κ (aJ.below U3);have a4:=κ ao.size;clear aJ a3 ao U3 CX aj
 go_upto_region 3 with fail
 clear k0 k1 k2 k3 k4 k5 k6 k7 k8 k9 bi bj f0 f1 f2 f3 f4 f5 f6 f7 f8 f9 bk bl c0 c1 c2 c3 K0 N2 bu;obtain⟨gV,ap⟩:=ν w2.heap.size;have V7:=κ (ζ ap V3.o);have a4:Hid (w0.heap.size≤gV):=by rw[ap];exact a4.o
 simp only[←ap];clear ap V3;generalize w2.alloc (.cells (vB l E A7 H I C7 J L) 181)=w3 at aK N7 V7 ⊢;by_cases hcc0:cc=0
 case neg=>
  have t1:(cc != 0)=true:=by simp[hcc0]
  go_upto_region 4 with fail
  have bv:=κ (can_no aV.o am.o a1.o.symm hcc0)
  go_wp2_with fail
  refine(refused_any cc _).mono ?_;rintro e wR ⟨rfl,a5⟩;have aL:=κ (CrdB.below_step aK.o a5);have MR:=κ (Mm_below M0.o aL.o);have ZR:=κ (Blk.below' Z0.o aL.o);have UR:Hid (Kp w wR g (some (α k 0))):=Kp_of_below (CrdB.below_step U0.o aL.o);clear a5;obtain⟨z0,z1,z2,z3⟩:=q2b ZR.o;have zx:=χ ((blk_st ZR.o 0 (ι cc)).cell 1);have F3:Blk (st2 wR gZ (ι cc) (ι 0)) gZ 74 (vI cc 0):=st2_blk ZR.o
  have Q:MadeDo base g ⟨Y,Z,ra,ta,A,B,C,S,T,U,c,d,f,nd,ac,sy,some (α k 0),G,K,F,An,Au,V,W,d1,d2,cl,cu,ep,t⟩ (plO ⟨Y,Z,ra,ta,A,B,C,S,T,U,c,d,f,nd,ac,sy,some (α k 0),G,K,F,An,Au,V,W,d1,d2,cl,cu,ep,t⟩) cc 0 [] w (.returned (.tuple #[.agg (vI cc 0),.slice none 0 0])) (st2 wR gZ (ι cc) (ι 0)):=by
   unfold st2;refine madeDo_no (q:=⟨Y,Z,ra,ta,A,B,C,S,T,U,c,d,f,nd,ac,sy,some (α k 0),G,K,F,An,Au,V,W,d1,d2,cl,cu,ep,t⟩) (Mm_setz (Mm_setz MR.o MZ.o ZR.o (by decide) 0 _) MZ.o (blk_st ZR.o 0 _) (by decide) 1 _) rfl rfl ?_ (fun z _ h=>Mz_same h);exact Kp_past (Kp_past UR.o ai.o 0 _) ai.o 1 _
  have HF:=κ Q;clear Q
  go_wp2_with fail
  obtain⟨e0,e1,_,_⟩:=q2b F3;clear F3;unfold st2 at e0 e1 HF;exact bodyPost_ret (v:= .tuple #[.agg #[ι cc,ι 0],.slice none 0 0]) (by simp[results,Tryz.results56,go_sem,e0,e1]) rfl (by first|exact HF.o|(rw[bv.o];exact HF.o))
 case pos=>
  have t1:(cc != 0)=false:=by simp[hcc0]
  have bw:=κ (can_yes aV.o am.o (by rw[←a1.o];exact hcc0));have bx:Hid (w0.heap.size≤w0.heap.size):=τ;clear hcc0
  go_upto_region 5 with fail
  have ae:=κ (Below.drew aK.o);have Md:=κ (Mm_below M0.o ae.o);have aa:=κ (ε V7.o);have aM:=κ (Mm_lt M0.o);have bH:=κ (ξ (aM.o.2 (α k 0) rfl));have aq:=κ bx.o;have R:=own_room Md.o.row;have ar:=R.2.2.2.2.2 (j*4) _ (by have:=bxs_get F j 0 y.o (by decide);rw[←HX.o]at this;exact this);have af:=R.2.2.2.2.2 (j*4+1) _ (by have:=bxs_get F j 1 y.o (by decide);rw[←HX.o]at this;exact this);have ag:=R.2.2.2.2.2 (j*4+2) _ (by have:=bxs_get F j 2 y.o (by decide);rw[←HX.o]at this;exact this);have ah:=R.2.2.2.2.2 (j*4+3) _ (by have:=bxs_get F j 3 y.o (by decide);rw[←HX.o]at this;exact this);simp only[bxV,List.getElem?_cons_zero,List.getElem?_cons_succ]at ar af ag ah;rw[←aC.o.1]at ar;rw[←aC.o.2]at af;rw[←aY.o]at ag;rw[←aZ.o]at ah;clear R;have ab:=own_room Md.o.row;have bz:=ξ ab.2.2.1;have a6:=(ab.2.2.2.2.1 (j*4) (show j*4<K*4 by omega)).2;have aN:=(ab.2.2.2.2.1 (j*4+1) (show j*4+1<K*4 by omega)).2;have aO:=(ab.2.2.2.2.1 (j*4+2) (show j*4+2<K*4 by omega)).2;have aP:=(ab.2.2.2.2.1 (j*4+3) (show j*4+3<K*4 by omega)).2;clear ab bz;have a7:=ω (α k (j*4)) (ι l) af;have a8:=φ (α k (j*4)) (ι l) aN;have a9:=ω (α k (j*4+1)) (ι E) (ω (α k (j*4)) (ι l) ag);have ba:=φ (α k (j*4+1)) (ι E) (φ (α k (j*4)) (ι l) aO);have bb:=ω (α k (j*4+2)) (.slice A7 H I) (ω (α k (j*4+1)) (ι E) (ω (α k (j*4)) (ι l) ah));have bc:=φ (α k (j*4+2)) (.slice A7 H I) (φ (α k (j*4+1)) (ι E) (φ (α k (j*4)) (ι l) aP));let bd:World→Prop:=fun w'=>w'.cell? (α g 7)=some (.slice (some (α k 0)) G K)∧w'.cell? (α gV 0)=some (ι l)∧w'.cell? (α gV 1)=some (ι E)∧w'.cell? (α gV 2)=some (.slice A7 H I)∧w'.cell? (α gV 3)=some (.slice C7 J L)
  have HT:Hid (bd (w3.drew)):=⟨Md.o.blk.cell 7,aa.o.cell 0,aa.o.cell 1,aa.o.cell 2,aa.o.cell 3⟩
  have M9:Hid (Mm base ((((w3.drew.setCell (α k (j*4)) (ι l)).setCell (α k (j*4+1)) (ι E)).setCell (α k (j*4+2)) (.slice A7 H I)).setCell (α k (j*4+3)) (.slice C7 J L)) g ⟨Y,Z,ra,ta,A,B,C,S,T,U,c,d,f,nd,ac,sy,some (α k 0),G,K,F.set j ⟨A7,C7,I,L,O,P⟩,An,Au,V,W,d1,d2,cl,cu,ep,t⟩):=by
   have h9:=Mm_book Md.o rfl (i:=j) y.o (x:=⟨A7,C7,I,L,O,P⟩) (show Bm w3.drew A7 C7 O P from⟨N7.o.r,N7.o.e,N7.o.n,N7.o.o⟩) (FarX_new (base:=w0.heap.size) (by have:=aM.o.1;have:=aq.o;omega) (fun b hb=>by have:=aM.o.2 b hb;have:=aq.o;omega) F7.o);simp only[←an.o.1,←an.o.2.1,←an.o.2.2.1,←an.o.2.2.2]at h9;exact h9
  have au:Hid (gZ≠k):=fun e=>blk_own_ne Z0.o M0.o.row (by decide) (by rw[e];rfl)
  have Z9:Hid (Blk ((((w3.drew.setCell (α k (j*4)) (ι l)).setCell (α k (j*4+1)) (ι E)).setCell (α k (j*4+2)) (.slice A7 H I)).setCell (α k (j*4+3)) (.slice C7 J L)) gZ 74 (vI 0 0)):=(far_st (far_st (far_st (far_st (show Blk w3.drew gZ 74 (vI 0 0) from Blk.below' Z0.o ae.o) au.o _) au.o _) au.o _) au.o _);have av:Hid (Kp w ((((w3.drew.setCell (α k (j*4)) (ι l)).setCell (α k (j*4+1)) (ι E)).setCell (α k (j*4+2)) (.slice A7 H I)).setCell (α k (j*4+3)) (.slice C7 J L)) g (some (α k 0))):=Kp_setb (Kp_setb (Kp_setb (Kp_setb (Kp_of_below (CrdB.below_step U0.o ae.o)) _ _) _ _) _ _) _ _
  have bA:Hid (∀z,z<w.heap.size→Mz z g ⟨Y,Z,ra,ta,A,B,C,S,T,U,c,d,f,nd,ac,sy,some (α k 0),G,K,F,An,Au,V,W,d1,d2,cl,cu,ep,t⟩→Mz z g ⟨Y,Z,ra,ta,A,B,C,S,T,U,c,d,f,nd,ac,sy,some (α k 0),G,K,F.set j ⟨A7,C7,I,L,O,P⟩,An,Au,V,W,d1,d2,cl,cu,ep,t⟩):=by
   intro z hz bB;have bI:=U0.o.size;exact Mz_book bB (i:=j) y.o (x:=⟨A7,C7,I,L,O,P⟩) (FzB_new (base:=w0.heap.size) (by have:=aq.o;omega) F7.o)
  have be:=κ (ξ (Mz_book MZ.o (i:=j) y.o (x:=⟨A7,C7,I,L,O,P⟩) (FzB_new (base:=w0.heap.size) (by have:=Z0.o.lt;have:=aq.o;omega) F7.o)))
  go_upto_region 5 with fail
  refine Ω bd [7] ?_;generalize w3.drew=w8 at ae Md aa ar af ag ah a6 aN aO aP a7 a9 bb a8 ba bc HT M9 Z9 av ⊢;refine jA 0 HT.o ?_;refine jA 1 HT.o ?_;refine jA 2 HT.o ?_;refine jB 3 HT.o ?_;refine jA 4 HT.o ?_;refine jB 5 HT.o ?_;refine jA 6 HT.o ?_;refine jV 7 fun K' hK=>?_
  go_simp;refine hK.out _ _ ?_;clear hK K';refine jP ?_;refine Δ ?_;clear ar af ag ah a6 aN aO aP a7 a9 bb a8 ba bc HT aa Md ae
  go_upto_region 6 with fail
  generalize ((((w8.setCell (α k (j*4)) (ι l)).setCell (α k (j*4+1)) (ι E)).setCell (α k (j*4+2)) (.slice A7 H I)).setCell (α k (j*4+3)) (.slice C7 J L))=w9 at M9 Z9 av ⊢;have aQ:=κ (β w9 (.cells (vI 1 i) 93));have aw:=κ (Blk.below' Z9.o aQ.o);have bC:=κ (Mm_below M9.o aQ.o);have hO:Hid (Nds (w9.alloc (.cells (vI 1 i) 93)) (w9.alloc (.cells (vI 1 i) 93)).heap.size (some (α w9.heap.size 0)) [(1,i)]):=rd_new rfl;have bD:=κ (Kp_step av.o aQ.o);have bf:Hid (w9.heap.size≠gZ):=by show _≠_;have:=Z9.o.lt;omega
  have F3:Blk (st2 (w9.alloc (.cells (vI 1 i) 93)) gZ (ι 0) (ι 0)) gZ 74 (vI 0 0):=st2_blk aw.o
  have aR:canF (plO ⟨Y,Z,ra,ta,A,B,C,S,T,U,c,d,f,nd,ac,sy,some (α k 0),G,K,F,An,Au,V,W,d1,d2,cl,cu,ep,t⟩) i=(plO ⟨Y,Z,ra,ta,A,B,C,S,T,U,c,d,f,nd,ac,sy,some (α k 0),G,K,F.set j ⟨A7,C7,I,L,O,P⟩,An,Au,V,W,d1,d2,cl,cu,ep,t⟩,(0,0,[(1,i)])):=by
   rw[bw.o];unfold plO;simp only[List.map_set,←bt.o]
  have Q:MadeDo base g ⟨Y,Z,ra,ta,A,B,C,S,T,U,c,d,f,nd,ac,sy,some (α k 0),G,K,F,An,Au,V,W,d1,d2,cl,cu,ep,t⟩ (plO ⟨Y,Z,ra,ta,A,B,C,S,T,U,c,d,f,nd,ac,sy,some (α k 0),G,K,F.set j ⟨A7,C7,I,L,O,P⟩,An,Au,V,W,d1,d2,cl,cu,ep,t⟩) 0 0 [(1,i)] w (.returned (.tuple #[.agg (vI 0 0),.slice (some (α w9.heap.size 0)) 1 1])) (st2 (w9.alloc (.cells (vI 1 i) 93)) gZ (ι 0) (ι 0)):=by
   unfold st2;refine⟨⟨Y,Z,ra,ta,A,B,C,S,T,U,c,d,f,nd,ac,sy,some (α k 0),G,K,F.set j ⟨A7,C7,I,L,O,P⟩,An,Au,V,W,d1,d2,cl,cu,ep,t⟩,some (α w9.heap.size 0),1,1,rfl,rfl,?_,?_,Mm_setz (Mm_setz bC.o be.o aw.o (by decide) 0 _) be.o (blk_st aw.o 0 _) (by decide) 1 _,rfl,rfl,Kp_past (Kp_past bD.o ai.o 0 _) ai.o 1 _,bA.o⟩
   ·exact Rd.keep' (Rd.keep' hO.o (Nat.lt_succ_self _) (fun a ha=>by have e:=Option.some.inj ha;rw[←e];exact bf.o) _) (Nat.lt_succ_self _) (fun a ha=>by have e:=Option.some.inj ha;rw[←e];exact bf.o) _
   ·intro a ha;have e:=Option.some.inj ha;rw[←e];exact av.o.size
  have HF:=κ Q;have aR:=κ aR;clear Q;obtain⟨z0,z1,z2,z3⟩:=q2b Z9.o;have zx:=χ ((blk_st Z9.o 0 (ι 0)).cell 1);obtain⟨s0,s1,s2,s3⟩:=q2b aw.o
  go_wp2_with fail
  obtain⟨e0,e1,_,_⟩:=q2b F3;clear F3;unfold st2 at e0 e1 HF;exact bodyPost_ret (v:= .tuple #[.agg #[ι 0,ι 0],.slice (some (α w9.heap.size 0)) 1 1]) (by simp[results,Tryz.results56,go_sem,e0,e1]) rfl (by first|exact HF.o|(rw[aR.o];exact HF.o))
end Mdk
end Go.Proofs.YtcccdikhfgpamaaGreat
