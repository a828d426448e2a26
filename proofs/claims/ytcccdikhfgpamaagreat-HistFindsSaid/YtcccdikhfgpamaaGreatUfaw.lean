/- Texts side by side. -/
import Derived.Test.YtcccdikhfgpamaaGreatUfar
import Derived.Test.YtcccdikhfgpamaaGreatUfav
set_option linter.unusedVariables false
set_option linter.unusedSimpArgs false
set_option maxRecDepth 100000
set_option maxHeartbeats 16000000
namespace Go.Proofs.YtcccdikhfgpamaaGreat
open Kap Go.RowKit Mem
namespace Mdy
open Abv Lax Go.ChangeShapes Go.WideShapes Go.ChangeAt Tre Ref3 Law3 Fix3 Cfg Crd CrdB CrdC Rr4 Bkp Bks Bkf Bcl Dlk Stk Apt Bko Bku Bka Bkc Bkq Bkw Mdp Mdz Mds Mdn Mdo Mdk Lat
open Rul1 hiding below_step
variable {ep:Int} {n:Nat} {p:Pm}
theorem infoOut:(Tryz.prog.info? 93).map (fun i=>(i.zero,i.size,i.bytes))=some (some (.agg #[.int .i64 0,.int .i64 0]),2,16):=by kernel_rfl
def outC(ids:List Int):List (Int×Int):=ids.map fun i=>(1,i)
def swpF(p:Pm)(s ep:Int):Pm×(Int×Int×List (Int×Int)):=
 if hasF p.bs.length s=true then ({p with bs:=p.bs.set s.toNat (sweepF (gB p.bs s.toNat) ep)},(0,(swI ep (gB p.bs s.toNat).op).length,outC (swI ep (gB p.bs s.toNat).op)))
 else (p,(1,0,[]))
theorem swp_no{s:Int}(hn:n=p.bs.length)(h:hasF n s=false):swpF p s ep=(p,(1,0,[])):=by
 unfold swpF;rw[←hn,h,if_neg (by decide)]
theorem swp_yes{k:Nat}{b:Bk}(hn:n=p.bs.length)(h:hasF n (k:Int)=true)(hb:gB p.bs k=b):swpF p (k:Int) ep=({p with bs:=p.bs.set k (sweepF b ep)},((0:Int),((swI ep b.op).length:Int),outC (swI ep b.op))):=by
 unfold swpF;rw[←hn,h,if_pos rfl,Int.toNat_natCast,hb]
theorem outC_snoc(l:List Int)(i:Nat)(h:i<l.length):outC (l.take (i+1))=outC (l.take i)++[(1,gI l i)]:=by
 unfold outC;have e:l.take (i+1)=l.take i++[gI l i]:=by rw[List.take_succ_eq_append_getElem h];simp[gI,h]
 rw[e,List.map_append]
 rfl
theorem msweep_any(base g m:Nat)(q:Mq)(i x:Int)(w:World)(h:Hid (Mm base w g q))(hv:Hid (Vq m q))(hm:m≤900)(hi:inI i)(hx0: -9223372036854775808≤x)(hx1:x≤9223372036854775807):
  Calls Tryz.prog 53 #[.pointer (some ⟨g,0,none⟩),.int .i64 i,.int .i64 x] w (MadeDo base g q (swpF (plO q) i x).1 (swpF (plO q) i x).2.1 (swpF (plO q) i x).2.2.1 (swpF (plO q) i x).2.2.2 w):=by
 obtain⟨sh,wi,ra,ta,A,B,C,S,T,U,c,d,f,nd,ac,sy,Ab,G,O,H,An,Au,V,W,d1,d2,cl,cu,ep,E⟩:=q;obtain⟨v1,v2,bB,v3,v4,v5,v6,v7,v8,v9,aW⟩:=hv.o;obtain⟨l1,l2,l3,l4,l5,l6⟩:=(⟨h.o.l1,h.o.l2,h.o.l3,h.o.l4,h.o.l5,h.o.l6⟩:S=nd.length∧T=ac.length∧U=sy.length∧G=H.length∧V=cl.length∧W=cu.length);have L1:=κ l1;have L2:=κ l2;have L3:=κ l3;have L4:=κ l4;have L5:=κ l5;have L6:=κ l6;have V4:=κ v4;have V5:=κ v5;have V7:=κ v7;have V9:=κ v9;have b4:=κ aW;simp only at v1 v2 bB v3 v6 v8;obtain⟨s,aX⟩:=own_at h.o.row (by show 0<G;simp only at v7;omega);simp only at aX;subst aX;have b5:G≤1000∧1≤G:=by simp only at v7;omega
 clear l1 l2 l3 l4 l5 l6 v4 v5 v7 v9 aW;have U0:=κ (β w (.cells (vI 0 0) 74));have Z0:=κ (Blk.fresh w 74 (vI 0 0));have M0:=κ (Mm_below h.o U0.o);have MZ:=κ (Mz_of h.o τ)
 go_enter Tryz.func53,Tryz.ntmps53
 go_upto_region 1 with fail
 generalize aY:w.heap.size=gZ at Z0 MZ ⊢;have b6:=κ aY;have an:Hid (w.heap.size≤gZ):=by show _≤_;omega
 clear aY;generalize (w.alloc (.cells (vI 0 0) 74))=w0 at Z0 U0 M0 ⊢;have K0:Hid (Blk w0 g 144 (vQ sh wi ra ta A S c B T d C U f (some (α s 0)) G O An V d1 Au W d2 ep E)):=M0.o.blk;obtain⟨k0,k1,k2,k3,k4,k5,k6,k7,k8,k9,aZ,a0,f0,f1,f2,f3,f4,f5,f6,f7,f8,f9,a1,a2⟩:=q12_of K0.o;have ad:=has_any (some (α s 0)) G O i w0 (by omega) hi;have a3:Hid (G=(plO ⟨sh,wi,ra,ta,A,B,C,S,T,U,c,d,f,nd,ac,sy,some (α s 0),G,O,H,An,Au,V,W,d1,d2,cl,cu,ep,E⟩).bs.length):=by show G=(H.map Bx.b).length;rw[List.length_map];exact L4.o
 by_cases hh:hasF G i=true
 case neg=>
  have a4:hasF G i=false:=by simpa using hh
  rw[a4]at ad
  go_upto_region 2 with(refine ad.mono ?_;rintro e w1 ⟨rfl,ae⟩;rw[ae];clear ae w1)
  clear k0 k1 k2 k3 k4 k5 k6 k7 k8 k9 aZ a0 f0 f1 f2 f3 f4 f5 f6 f7 f8 f9 a1 a2 K0;have bC:Hid (swpF (plO ⟨sh,wi,ra,ta,A,B,C,S,T,U,c,d,f,nd,ac,sy,some (α s 0),G,O,H,An,Au,V,W,d1,d2,cl,cu,ep,E⟩) i x=((plO ⟨sh,wi,ra,ta,A,B,C,S,T,U,c,d,f,nd,ac,sy,some (α s 0),G,O,H,An,Au,V,W,d1,d2,cl,cu,ep,E⟩),(1,0,[]))):=swp_no a3.o a4
  go_wp2_with fail
  refine(refused_any 1 _).mono ?_;rintro e wR ⟨rfl,a5⟩;have aB:=κ (CrdB.below_step (κ (Below.refl w0.heap.size w0)).o a5);have MR:=κ (Mm_below M0.o aB.o);have ZR:=κ (Blk.below' Z0.o aB.o);have UR:Hid (Kp w wR g (some (α s 0))):=Kp_of_below (CrdB.below_step U0.o aB.o);clear a5;obtain⟨z0,z1,z2,z3⟩:=q2b ZR.o;have zx:=χ ((blk_st ZR.o 0 (ι 1)).cell 1);have F3:Blk (st2 wR gZ (ι 1) (ι 0)) gZ 74 (vI 1 0):=st2_blk ZR.o
  have Y:MadeDo base g ⟨sh,wi,ra,ta,A,B,C,S,T,U,c,d,f,nd,ac,sy,some (α s 0),G,O,H,An,Au,V,W,d1,d2,cl,cu,ep,E⟩ (plO ⟨sh,wi,ra,ta,A,B,C,S,T,U,c,d,f,nd,ac,sy,some (α s 0),G,O,H,An,Au,V,W,d1,d2,cl,cu,ep,E⟩) 1 0 [] w (.returned (.tuple #[.agg (vI 1 0),.slice none 0 0])) (st2 wR gZ (ι 1) (ι 0)):=by
   unfold st2;refine madeDo_no (q:=⟨sh,wi,ra,ta,A,B,C,S,T,U,c,d,f,nd,ac,sy,some (α s 0),G,O,H,An,Au,V,W,d1,d2,cl,cu,ep,E⟩) (Mm_setz (Mm_setz MR.o MZ.o ZR.o (by decide) 0 _) MZ.o (blk_st ZR.o 0 _) (by decide) 1 _) rfl rfl ?_ (fun z _ h=>Mz_same h);exact Kp_past (Kp_past UR.o an.o 0 _) an.o 1 _
  have HF:=κ Y;clear Y
  go_wp2_with fail
  obtain⟨e0,e1,_,_⟩:=q2b F3;clear F3;unfold st2 at e0 e1 HF;exact bodyPost_ret (v:= .tuple #[.agg #[ι 1,ι 0],.slice none 0 0]) (by simp[results,Tryz.results53,go_sem,e0,e1]) rfl (by first|exact HF.o|(rw[bC.o];exact HF.o))
 case pos=>
  rw[hh]at ad;have bD:0≤i∧i<(G:Int):=by simpa[hasF] using hh
  obtain⟨l,bE⟩: ∃k:Nat,i=k:=⟨i.toNat,by omega⟩;subst bE;have bF:l<G:=by omega
  clear bD;have I:Hid (l<H.length):=by show _<_;rw[←L4.o];exact bF
  have af:=own_room M0.o.row;have c0:=af.2.2.2.2.2 (l*4) _ (by have:=bxs_get H l 0 I.o (by decide);exact this);have c1:=af.2.2.2.2.2 (l*4+1) _ (by have:=bxs_get H l 1 I.o (by decide);exact this);have c2:=af.2.2.2.2.2 (l*4+2) _ (by have:=bxs_get H l 2 I.o (by decide);exact this);have c3:=af.2.2.2.2.2 (l*4+3) _ (by have:=bxs_get H l 3 I.o (by decide);exact this);clear af;have ao:=κ (M0.o.bm l I.o);have VB:=κ (V9.o l I.o)
  have aC:Hid (gB (plO ⟨sh,wi,ra,ta,A,B,C,S,T,U,c,d,f,nd,ac,sy,some (α s 0),G,O,H,An,Au,V,W,d1,d2,cl,cu,ep,E⟩).bs l=(gX H l).b):=by
   show(H.map Bx.b).getD l bk0=_;have h1:=I.o;simp[gX,h1]
  obtain⟨X,hX⟩:=ν (gX H l);rw[←hX]at aC;simp only at ao VB;rw[←hX]at c0 c1 c2 c3 ao VB;have HX:=κ hX;clear hX;obtain⟨XA,XC,xc,xd,bG,xb⟩:=X;obtain⟨a6,aD⟩:=ν xb.sh;obtain⟨a7,aE⟩:=ν xb.ca;obtain⟨bH,aF⟩:=ν xb.rows.length;obtain⟨bI,aG⟩:=ν xb.op.length;simp only[bxV,List.getElem?_cons_zero,List.getElem?_cons_succ]at c0 c1 c2 c3;have aH:Hid (a6=xb.sh∧a7=xb.ca):=⟨aD,aE⟩;have a8:=κ aF;have a9:=κ aG;simp only at VB ao aC;have ba:=κ (VB.o.1.few (by omega));rw[←aD]at c0;rw[←aE]at c1;rw[←aF]at c2;rw[←aG]at c3;clear aD aE aF aG;have b7:decide ((l:Int)<(G:Int))=true:=by simp;omega
  have CX:=sweep_any a6 a7 XA XC bH bI xc xd bG xb x w0 aH a8 a9 ao ba;have bb:=κ (swp_yes (ep:=x) a3.o hh aC.o);obtain⟨R,aI⟩:=ν (sweepF xb x);obtain⟨t,ap⟩:=ν (swI x xb.op);obtain⟨nI,aq⟩:=ν t.length
  have b8:nI≤1000:=by
   rw[aq,ap];have h1:=swI_le x xb.op;have h2:=ba.o.ol;omega
  obtain⟨y,aJ⟩:=ν R.sh;obtain⟨F,aK⟩:=ν R.ca;obtain⟨J,aL⟩:=ν R.rows.length;obtain⟨K,aM⟩:=ν R.op.length;unfold MadeSw at CX;rw[←aI,←ap]at CX;rw[←aI,←ap]at bb
  have bc: ∀A7 C7 L P,bkA A7 C7 L P R= .agg (vB y F A7 J L C7 K P):=by
   intro A7 C7 L P;unfold bkA;rw[aJ,aK,aL,aM]
  simp only[bc,←aq]at CX;have ar:=κ aq;have au:Hid (y=R.sh∧F=R.ca∧J=R.rows.length∧K=R.op.length):=⟨aJ,aK,aL,aM⟩;clear aI ap aq aJ aK aL aM bc
  go_upto_region 3 with(refine ad.mono ?_;rintro e w1 ⟨rfl,ae⟩;rw[ae];clear ae w1)
  go_wp2_with fail
  refine CX.mono ?_;rintro e w2 ⟨A7,C7,L,P,Q,Ai,ci,rfl,bd,be,bf,bg,aN⟩;have F7:=κ be;have U3:=β w2 (.cells (vB y F A7 J L C7 K P) 181);have V3:=κ (Blk.fresh w2 181 (vB y F A7 J L C7 K P));have bh:=κ (CrdB.below_step aN U3);have N7:=κ (bd.below U3);have I7:=η bf U3;have bJ:=κ bg;have bi:=κ aN.size;clear bd be aN bf bg U3 CX ad
  go_upto_region 4 with fail
  clear k0 k1 k2 k3 k4 k5 k6 k7 k8 k9 aZ a0 f0 f1 f2 f3 f4 f5 f6 f7 f8 f9 a1 a2 c0 c1 c2 c3 K0;obtain⟨gV,av⟩:=ν w2.heap.size;have V7:=κ (ζ av V3.o);have bi:Hid (w0.heap.size≤gV):=by rw[av];exact bi.o
  simp only[←av];clear av V3;generalize w2.alloc (.cells (vB y F A7 J L C7 K P) 181)=w3 at bh N7 V7 I7 ⊢;have bK:Hid (w0.heap.size≤w0.heap.size):=τ;have aw:Hid (Far g (some (α s 0)) Ai (ints t)):=Far_new (base:=w0.heap.size) (Mm_lt M0.o).1 (Mm_lt M0.o).2 bJ.o;have aO:Hid (Ris ((((w3.drew.setCell (α s (l*4)) (ι y)).setCell (α s (l*4+1)) (ι F)).setCell (α s (l*4+2)) (.slice A7 J L)).setCell (α s (l*4+3)) (.slice C7 K P)) ((((w3.drew.setCell (α s (l*4)) (ι y)).setCell (α s (l*4+1)) (ι F)).setCell (α s (l*4+2)) (.slice A7 J L)).setCell (α s (l*4+3)) (.slice C7 K P)).heap.size Ai t):=Rd_setb (Rd_setb (Rd_setb (Rd_setb (show Ris w3.drew w3.drew.heap.size Ai t from I7.o) aw.o _ _) aw.o _ _) aw.o _ _) aw.o _ _;have ag:=κ (Below.drew bh.o);have Md:=κ (Mm_below M0.o ag.o);have aa:=κ (ε V7.o);have aP:=κ (Mm_lt M0.o);have cc:=κ (ξ (aP.o.2 (α s 0) rfl));have ax:=κ bK.o;have Z:=own_room Md.o.row;have ay:=Z.2.2.2.2.2 (l*4) _ (by have:=bxs_get H l 0 I.o (by decide);rw[←HX.o]at this;exact this);have ah:=Z.2.2.2.2.2 (l*4+1) _ (by have:=bxs_get H l 1 I.o (by decide);rw[←HX.o]at this;exact this);have ai:=Z.2.2.2.2.2 (l*4+2) _ (by have:=bxs_get H l 2 I.o (by decide);rw[←HX.o]at this;exact this);have aj:=Z.2.2.2.2.2 (l*4+3) _ (by have:=bxs_get H l 3 I.o (by decide);rw[←HX.o]at this;exact this);simp only[bxV,List.getElem?_cons_zero,List.getElem?_cons_succ]at ay ah ai aj;rw[←aH.o.1]at ay;rw[←aH.o.2]at ah;rw[←a8.o]at ai;rw[←a9.o]at aj;clear Z;have ab:=own_room Md.o.row;have bL:=ξ ab.2.2.1;have bj:=(ab.2.2.2.2.1 (l*4) (show l*4<O*4 by omega)).2;have aQ:=(ab.2.2.2.2.1 (l*4+1) (show l*4+1<O*4 by omega)).2;have aR:=(ab.2.2.2.2.1 (l*4+2) (show l*4+2<O*4 by omega)).2;have aS:=(ab.2.2.2.2.1 (l*4+3) (show l*4+3<O*4 by omega)).2;clear ab bL;have bk:=ω (α s (l*4)) (ι y) ah;have bl:=φ (α s (l*4)) (ι y) aQ;have bn:=ω (α s (l*4+1)) (ι F) (ω (α s (l*4)) (ι y) ai);have bo:=φ (α s (l*4+1)) (ι F) (φ (α s (l*4)) (ι y) aR);have bp:=ω (α s (l*4+2)) (.slice A7 J L) (ω (α s (l*4+1)) (ι F) (ω (α s (l*4)) (ι y) aj));have bq:=φ (α s (l*4+2)) (.slice A7 J L) (φ (α s (l*4+1)) (ι F) (φ (α s (l*4)) (ι y) aS));let br:World→Prop:=fun w'=>w'.cell? (α g 7)=some (.slice (some (α s 0)) G O)∧w'.cell? (α gV 0)=some (ι y)∧w'.cell? (α gV 1)=some (ι F)∧w'.cell? (α gV 2)=some (.slice A7 J L)∧w'.cell? (α gV 3)=some (.slice C7 K P)
  have HT:Hid (br (w3.drew)):=⟨Md.o.blk.cell 7,aa.o.cell 0,aa.o.cell 1,aa.o.cell 2,aa.o.cell 3⟩
  have M9:Hid (Mm base ((((w3.drew.setCell (α s (l*4)) (ι y)).setCell (α s (l*4+1)) (ι F)).setCell (α s (l*4+2)) (.slice A7 J L)).setCell (α s (l*4+3)) (.slice C7 K P)) g ⟨sh,wi,ra,ta,A,B,C,S,T,U,c,d,f,nd,ac,sy,some (α s 0),G,O,H.set l ⟨A7,C7,L,P,Q,R⟩,An,Au,V,W,d1,d2,cl,cu,ep,E⟩):=by
   have h9:=Mm_book Md.o rfl (i:=l) I.o (x:=⟨A7,C7,L,P,Q,R⟩) (show Bm w3.drew A7 C7 Q R from⟨N7.o.r,N7.o.e,N7.o.n,N7.o.o⟩) (FarX_new (base:=w0.heap.size) (by have:=aP.o.1;have:=ax.o;omega) (fun b hb=>by have:=aP.o.2 b hb;have:=ax.o;omega) F7.o);simp only[←au.o.1,←au.o.2.1,←au.o.2.2.1,←au.o.2.2.2]at h9;exact h9
  have az:Hid (gZ≠s):=fun e=>blk_own_ne Z0.o M0.o.row (by decide) (by rw[e];rfl)
  have Z9:Hid (Blk ((((w3.drew.setCell (α s (l*4)) (ι y)).setCell (α s (l*4+1)) (ι F)).setCell (α s (l*4+2)) (.slice A7 J L)).setCell (α s (l*4+3)) (.slice C7 K P)) gZ 74 (vI 0 0)):=(far_st (far_st (far_st (far_st (show Blk w3.drew gZ 74 (vI 0 0) from Blk.below' Z0.o ag.o) az.o _) az.o _) az.o _) az.o _);have aA:Hid (Kp w ((((w3.drew.setCell (α s (l*4)) (ι y)).setCell (α s (l*4+1)) (ι F)).setCell (α s (l*4+2)) (.slice A7 J L)).setCell (α s (l*4+3)) (.slice C7 K P)) g (some (α s 0))):=Kp_setb (Kp_setb (Kp_setb (Kp_setb (Kp_of_below (CrdB.below_step U0.o ag.o)) _ _) _ _) _ _) _ _
  have bM:Hid (∀z,z<w.heap.size→Mz z g ⟨sh,wi,ra,ta,A,B,C,S,T,U,c,d,f,nd,ac,sy,some (α s 0),G,O,H,An,Au,V,W,d1,d2,cl,cu,ep,E⟩→Mz z g ⟨sh,wi,ra,ta,A,B,C,S,T,U,c,d,f,nd,ac,sy,some (α s 0),G,O,H.set l ⟨A7,C7,L,P,Q,R⟩,An,Au,V,W,d1,d2,cl,cu,ep,E⟩):=by
   intro z hz bN;have cd:=U0.o.size;exact Mz_book bN (i:=l) I.o (x:=⟨A7,C7,L,P,Q,R⟩) (FzB_new (base:=w0.heap.size) (by have:=ax.o;omega) F7.o)
  have bt:=κ (ξ (Mz_book MZ.o (i:=l) I.o (x:=⟨A7,C7,L,P,Q,R⟩) (FzB_new (base:=w0.heap.size) (by have:=Z0.o.lt;have:=ax.o;omega) F7.o)))
  go_upto_region 4 with fail
  refine Ω br [7] ?_;generalize w3.drew=w8 at ag Md aa ay ah ai aj bj aQ aR aS bk bn bp bl bo bq HT M9 Z9 aA aO I7 N7 ⊢;refine jA 0 HT.o ?_;refine jA 1 HT.o ?_;refine jA 2 HT.o ?_;refine jB 3 HT.o ?_;refine jA 4 HT.o ?_;refine jB 5 HT.o ?_;refine jA 6 HT.o ?_;refine jV 7 fun K' hK=>?_
  go_simp;refine hK.out _ _ ?_;clear hK K';refine jP ?_;refine Δ ?_;clear ay ah ai aj bj aQ aR aS bk bn bp bl bo bq HT aa Md ag
  go_upto_region 5 with fail
  generalize ((((w8.setCell (α s (l*4)) (ι y)).setCell (α s (l*4+1)) (ι F)).setCell (α s (l*4+2)) (.slice A7 J L)).setCell (α s (l*4+3)) (.slice C7 K P))=w9 at M9 Z9 aA aO ⊢;obtain⟨i0,bO,bP,bQ,bR⟩:=info_parts infoOut
  go_upto_region 6 with fail
  go_wp2_with fail
  go_loopg [10,44] nI (fun g bS bT w'=> ∃(j:Nat) (Ao:Option Addr) (no co:Nat),j+g=nI∧bS= .slice Ao no co∧bT= ι j∧Hid (no=j)∧Hid (w'.ownsRow w9.heap.size 93 2 (.slice Ao no co) no (nds (outC (t.take j))))∧Hid (Below w9.heap.size w9 w'))
  case atStart=>exact⟨0,none,0,0,by omega,rfl,rfl,rfl,(by show World.ownsRow _ _ _ _ _ _ [];exact World.ownsRow_nil _ _ _ _),Below.refl _ _⟩
  case round=>
   obtain⟨j,Ao,no,co,ce,rfl,rfl,aT,OW,ak⟩:=hrel;by_cases hlt:j<nI
   ·obtain⟨g9,rfl⟩: ∃g9,gk=g9+1:=⟨gk-1,by omega⟩;have t0:decide ((j:Int)<(nI:Int))=true:=by simp;omega
    have aU:j<t.length:=by rw[←ar.o];exact hlt
    obtain⟨b9,o9,bU,bV,bu⟩:=Ris.at (i:=j) aO.o aU;subst bU;have bW:=(ak.o.cell (p:=(α b9 (o9+j))) bV).trans (bu j aU);obtain⟨nj,bv⟩:=ν (no+1);have bw:=κ bv;clear bv;have V0:=β wr (.cells (vI 1 (gI t j)) 93);have V1:=own_below OW V0;have V2:Hid (Rd (wr.alloc (.cells (vI 1 (gI t j)) 93)) (wr.alloc (.cells (vI 1 (gI t j)) 93)).heap.size (some (α wr.heap.size 0)) [ι 1,ι (gI t j)]):=rd_new rfl;have V3:=κ (CrdB.below_step ak.o V0);have V4:=V3.o.size;have cf:no≤1000:=by have:=aT.o;omega
    go_wp2_with (at_builtin;go_loud (refine wpList_appR (nm:=nj) V1 V3.o V2 bw.o rfl _ _ _ rfl i0 (.agg #[.int .i64 0,.int .i64 0]) 16 Tryz.underlying47 bO bP bQ bR rfl (by decide) rfl rfl (by simp) (by simp[Value.oneCell']) (by unfold maxLen;omega) (by omega) τ V4 V4 ?_);intro A6 c6 w7 bx bz bX)
    have O7:Hid (w7.ownsRow w9.heap.size 93 2 (.slice A6 nj c6) nj (nds (outC (t.take (j+1))))):=by
     rw[outC_snoc t j aU,nds_snoc];exact bx.o
    have B7:=κ bz;have bY:Hid (nj=j+1):=by show _=_;rw[bw.o,aT.o]
    clear bx bz bX V0 V1 V2 V3 V4 bW bu
    go_roundg g9
    case measure=>omega
    case rel=>exact⟨j+1,A6,nj,c6,by omega,rfl,by rw[Int.natCast_add];rfl,bY,O7,B7⟩
   ·have t0:decide ((j:Int)<(nI:Int))=false:=by simp;omega
    have bA:j=nI:=by omega
    have bZ:Hid (t.take j=t):=by show _=_;rw[bA,ar.o,List.take_length]
    have O9:=OW.o;rw[bZ.o]at O9;have N9:Hid (Nds wr wr.heap.size Ao (outC t)):=Rd.of_own O9;have F9:=κ (fun a ha=>Tre.own_fresh O9 a ha);have b0:=κ (Mm_below M9.o ak.o);have am:=κ (Blk.below' Z9.o ak.o);have b1:=κ (Kp_step aA.o ak.o);have cg:=Z9.o.lt;have b2:=κ aA.o.size;have b3:Hid (no=(outC t).length):=by show _=_;rw[aT.o,bA,ar.o];unfold outC;rw[List.length_map]
    have F3:Blk (st2 wr gZ (ι 0) (ι (nI:Int))) gZ 74 (vI 0 (nI:Int)):=st2_blk am.o
    have aV:swpF (plO ⟨sh,wi,ra,ta,A,B,C,S,T,U,c,d,f,nd,ac,sy,some (α s 0),G,O,H,An,Au,V,W,d1,d2,cl,cu,ep,E⟩) (l:Int) x=(plO ⟨sh,wi,ra,ta,A,B,C,S,T,U,c,d,f,nd,ac,sy,some (α s 0),G,O,H.set l ⟨A7,C7,L,P,Q,R⟩,An,Au,V,W,d1,d2,cl,cu,ep,E⟩,(0,(nI:Int),outC t)):=by
     rw[bb.o,←ar.o];unfold plO;simp only[List.map_set]
    have Y:MadeDo base g ⟨sh,wi,ra,ta,A,B,C,S,T,U,c,d,f,nd,ac,sy,some (α s 0),G,O,H,An,Au,V,W,d1,d2,cl,cu,ep,E⟩ (plO ⟨sh,wi,ra,ta,A,B,C,S,T,U,c,d,f,nd,ac,sy,some (α s 0),G,O,H.set l ⟨A7,C7,L,P,Q,R⟩,An,Au,V,W,d1,d2,cl,cu,ep,E⟩) 0 (nI:Int) (outC t) w (.returned (.tuple #[.agg (vI 0 (nI:Int)),.slice Ao no co])) (st2 wr gZ (ι 0) (ι (nI:Int))):=by
     unfold st2;refine⟨⟨sh,wi,ra,ta,A,B,C,S,T,U,c,d,f,nd,ac,sy,some (α s 0),G,O,H.set l ⟨A7,C7,L,P,Q,R⟩,An,Au,V,W,d1,d2,cl,cu,ep,E⟩,Ao,no,co,rfl,b3.o,?_,?_,Mm_setz (Mm_setz b0.o bt.o am.o (by decide) 0 _) bt.o (blk_st am.o 0 _) (by decide) 1 _,rfl,rfl,Kp_past (Kp_past b1.o an.o 0 _) an.o 1 _,bM.o⟩
     ·exact Rd.keep' (Rd.keep' N9.o (Nat.lt_succ_self _) (fun a ha=>by have:=F9.o a ha;omega) _) (Nat.lt_succ_self _) (fun a ha=>by have:=F9.o a ha;omega) _
     ·intro a ha;exact Nat.le_trans b2.o (F9.o a ha)
    have HF:=κ Y;have aV:=κ aV;clear Y O9;obtain⟨z0,z1,z2,z3⟩:=q2b am.o;have zx:=χ ((blk_st am.o 0 (ι 0)).cell 1)
    go_wp2_with fail
    obtain⟨e0,e1,_,_⟩:=q2b F3;clear F3;unfold st2 at e0 e1 HF;exact bodyPost_ret (v:= .tuple #[.agg #[ι 0,ι (nI:Int)],.slice Ao no co]) (by simp[results,Tryz.results53,go_sem,e0,e1]) rfl (by first|exact HF.o|(rw[aV.o];exact HF.o))
end Mdy
namespace Wpl
def bts(l:List UInt8):List Value:=l.map fun b=>Value.int .u8 (b.toNat:Int)
variable {x:Int} {n o s:Nat}
theorem bts_len(l:List UInt8):(bts l).length=l.length:=by simp[bts]
def By(w:World)(B:Nat)(A:Option Addr)(l:List UInt8):Prop:=Rd w B A (bts l)
theorem By.at{w:World}{B:Nat}{A:Option Addr}{l:List UInt8}(h:By w B A l){i:Nat}(hi:i<l.length):
  ∃b o,A=some ⟨b,o,none⟩∧b<B∧ ∀j (hj:j<l.length),w.cell? ⟨b,o+j,none⟩=some (.int .u8 (l[j].toNat:Int)):=by
 obtain⟨b,o,hA,a,c⟩:=Rd.at h (by intro e;have:=bts_len l;rw[e]at this;simp at this;omega);exact⟨b,o,hA,a,fun j hj=>c j _ (by simp[bts,hj])⟩
structure M where
 k:Int
 a:Int
 s:Int
 x:Bool
 p:Int
 q:Int
 n:Int
 t:Int
 i:Int
 y:Int
 z:Int
 v:Int
def mvs(m:M):List Value:=[.int .i64 m.k,.int .i64 m.a,.int .i64 m.s,.bool m.x,.int .i64 m.p,.int .i64 m.q,.int .i64 m.n,.int .i64 m.t,.int .i64 m.i,.int .i64 m.y,.int .i64 m.z,.int .i64 m.v]
def mvl(m:M):Value:= .agg #[.int .i64 m.k,.int .i64 m.a,.int .i64 m.s,.bool m.x,.int .i64 m.p,.int .i64 m.q,.int .i64 m.n,.int .i64 m.t,.int .i64 m.i,.int .i64 m.y,.int .i64 m.z,.int .i64 m.v]
def m0:M:=⟨0,0,0,false,0,0,0,0,0,0,0,0⟩
def eqM(m n:M):Bool:=m.k==n.k&&(m.a==n.a&&(m.s==n.s&&(m.x==n.x&&(m.p==n.p&&(m.q==n.q&&(m.n==n.n&&m.t==n.t))))))&&(m.i==n.i&&(m.y==n.y&&(m.z==n.z&&m.v==n.v)))
theorem eqM_iff(m n:M):eqM m n=true↔m=n:=by
 constructor
 ·intro h;simp only[eqM,Bool.and_eq_true,beq_iff_eq]at h;obtain⟨⟨c,d,e,f,g,i,j,k⟩,l,p,a,b⟩:=h;cases m;cases n;simp only at c d e f g i j k l p a b;subst c d e f g i j k l p a b
  rfl
 ·rintro rfl;simp[eqM]
theorem eqM_self(m:M):eqM m m=true:=(eqM_iff m m).2 rfl
def alM(m:M):M:=
 if m.k=0 then {m0 with k:=m.k,a:=m.a,s:=m.s,x:=m.x,p:=m.p,q:=m.q,n:=m.n,t:=m.t}
 else if m.k=1∨m.k=3 then {m0 with k:=m.k,i:=m.i}
 else if m.k=2 then {m0 with k:=m.k,i:=m.i,y:=m.y}
 else if m.k=6 then {m0 with k:=m.k,z:=m.z,v:=m.v}
 else {m0 with k:=m.k}
def fitP(m:M):Prop:=(0≤m.a∧m.a≤65535)∧(0≤m.s∧m.s≤65535)∧(0≤m.z∧m.z≤65535)∧(0≤m.i∧m.i≤4294967295)∧0≤m.p∧0≤m.q∧0≤m.n∧0≤m.t∧0≤m.y∧0≤m.v
def fitM(m:M):Bool:=decide ((0≤m.a∧m.a≤65535)∧(0≤m.s∧m.s≤65535)∧(0≤m.z∧m.z≤65535)∧(0≤m.i∧m.i≤4294967295)∧0≤m.p∧0≤m.q∧0≤m.n∧0≤m.t∧0≤m.y∧0≤m.v)
theorem fitM_of{m:M}(h:fitM m=true):fitP m:=by
 unfold fitM at h;unfold fitP;simp only[decide_eq_true_eq]at h;exact h
theorem fitM_t{m:M}(h:fitP m):fitM m=true:=by
 unfold fitM;unfold fitP at h;simp only[decide_eq_true_eq];exact h
def rightM(m:M):Bool:=(decide (0≤m.k)&&decide (m.k≤6))&&(eqM m (alM m)&&fitM m)
theorem rightM_of{m:M}(h:rightM m=true):0≤m.k∧m.k≤6∧m=alM m∧fitP m:=by
 unfold rightM at h;simp only[Bool.and_eq_true,decide_eq_true_eq]at h;exact⟨h.1.1,h.1.2,(eqM_iff _ _).1 h.2.1,fitM_of h.2.2⟩
theorem rightM_t{m:M}(h0:0≤m.k)(h1:m.k≤6)(h2:m=alM m)(h3:fitP m):rightM m=true:=by
 unfold rightM;rw[(eqM_iff _ _).2 h2,fitM_t h3];simp[h0,h1]
def WfM(m:M):Prop:=inI m.k∧inI m.a∧inI m.s∧inI m.p∧inI m.q∧inI m.n∧inI m.t∧inI m.i∧inI m.y∧inI m.z∧inI m.v
theorem seg(l:List UInt8)(o s:Nat):l.take (o+s)=l.take o++(l.drop o).take s:=by rw[List.take_add]
theorem tk(l:List UInt8)(o s e:Nat)(he:o+s=e)(xs:List UInt8)(h:xs=(l.drop o).take s):l.take o++xs=l.take e:=by subst he;rw[seg,h]
theorem nn(h:0≤x):((x.toNat:Nat):Int)=x:=Int.toNat_of_nonneg h
end Wpl
end Go.Proofs.YtcccdikhfgpamaaGreat
