/- Texts side by side. -/
import Derived.Test.YtcccdikhfgpamaaGreatUfar
import Derived.Test.YtcccdikhfgpamaaGreatUfas
set_option linter.unusedVariables false
set_option linter.unusedSimpArgs false
set_option maxRecDepth 100000
set_option maxHeartbeats 16000000
namespace Go.Proofs.YtcccdikhfgpamaaGreat
open Kap Abv Lax Go.ChangeShapes Go.WideShapes Go.ChangeAt Go.RowKit Mem Tre Ref3 Law3 Fix3 Cfg Crd CrdB CrdC Rr4 Bkp Bks Bkf Bkg Bcl Dlk Stk Apt Bko Bku Bka Bkc Bkq Res Mdp Mdz Mds Mdn Mdo Mdk Mdr Lat
namespace Mdj
open Rul1 hiding below_step
def EnK(al:Nat)(e:En):Prop:=0≤e.o.a∧e.o.a<(al:Int)∧1≤e.o.p∧1≤e.lf∧e.o.p*e.lf≤9223372036854775807
def Vo(q:Mq):Prop:= ∀k,k<q.xs.length→ ∀e∈(gX q.xs k).b.op,EnK q.al e
def relP(p:Pm)(a x:Int):Pm:={p with cu:=Cpl.relU p.cl p.cu (gI p.ac a.toNat) x}
def filF(p:Pm)(i y:Int):Pm×(Int×Int×List (Int×Int)):=
 if (fillF (gB p.bs (shN p i)) i y).2≠0 then (p,((fillF (gB p.bs (shN p i)) i y).2,0,[]))
 else (relP {p with bs:=p.bs.set (shN p i) (fillF (gB p.bs (shN p i)) i y).1} (findE (gB p.bs (shN p i)).op i).o.a ((findE (gB p.bs (shN p i)).op i).o.p*y),(0,0,[]))
variable {b:Bk} {c i y:Int} {s:Nat} {p:Pm}
theorem fil_no(hs:shN p i=s)(hb:gB p.bs s=b)(hc:(fillF b i y).2=c)(h:c≠0):filF p i y=(p,(c,0,[])):=by
 unfold filF;rw[hs,hb,hc,if_pos h]
theorem fil_yes(hs:shN p i=s)(hb:gB p.bs s=b)(h:(fillF b i y).2=0):filF p i y=(relP {p with bs:=p.bs.set s (fillF b i y).1} (findE b.op i).o.a ((findE b.op i).o.p*y),(0,0,[])):=by
 unfold filF;rw[hs,hb,if_neg (by rw[h];decide)]
def akF(p:Pm)(i:Int):Pm×(Int×Int×List (Int×Int)):=
 if (ackF (gB p.bs (shN p i)) i).2≠0 then (p,((ackF (gB p.bs (shN p i)) i).2,0,[]))
 else (relP {p with bs:=p.bs.set (shN p i) (ackF (gB p.bs (shN p i)) i).1} (findE (gB p.bs (shN p i)).op i).o.a ((findE (gB p.bs (shN p i)).op i).o.p*(findE (gB p.bs (shN p i)).op i).lf),(0,0,[]))
theorem ak_no(hs:shN p i=s)(hb:gB p.bs s=b)(hc:(ackF b i).2=c)(h:c≠0):akF p i=(p,(c,0,[])):=by
 unfold akF;rw[hs,hb,hc,if_pos h]
theorem ak_yes(hs:shN p i=s)(hb:gB p.bs s=b)(h:(ackF b i).2=0):akF p i=(relP {p with bs:=p.bs.set s (ackF b i).1} (findE b.op i).o.a ((findE b.op i).o.p*(findE b.op i).lf),(0,0,[])):=by
 unfold akF;rw[hs,hb,if_neg (by rw[h];decide)]
theorem fill_ok(h:(fillF b i y).2=0):posE b.op i<b.op.length∧1≤y∧y≤(findE b.op i).lf:=by
 unfold fillF at h;split at h
 ·simp at h
 ·rename_i h1
  split at h
  ·rename_i h2
   split at h
   ·simp at h
   ·rename_i h3
    have e:findE b.op i=gE b.op (posE b.op i):=by unfold findE;rw[if_pos h2]
    exact⟨h2,by omega,by rw[e];omega⟩
  ·simp at h
theorem ack_ok(h:(ackF b i).2=0):posE b.op i<b.op.length:=by
 unfold ackF at h;split at h
 ·rename_i h2;exact h2
 ·simp at h
theorem find_mem{l:List En}(h:posE l i<l.length):findE l i∈l:=by
 unfold findE;rw[if_pos h];exact gE_mem h
theorem mul_fits{p l:Int}(hp:1≤p)(h1:1≤y)(h2:y≤l)(h3:p*l≤9223372036854775807): -9223372036854775808≤p*y∧p*y≤9223372036854775807:=by
 have a:p*y≤p*l:=Int.mul_le_mul_of_nonneg_left h2 (by omega);have d:0≤p*y:=Int.mul_nonneg (by omega) (by omega);omega
theorem blk_kp{w w':World}{g gb z:Nat}{te:TypeId}{cs:Array Value}(h:Blk w z te cs)(k:Kp w w' g (some ⟨gb,0,none⟩))(h1:z≠g)(h2:z≠gb):Blk w' z te cs:=
 (k.block z h.lt h1 (fun b a=>by have e:=Option.some.inj a;rw[←e];exact h2)).trans h
theorem mfill_any(base g m:Nat)(q:Mq)(i y:Int)(w:World)(h:Hid (Mm base w g q))(hv:Hid (Vq m q))(hm:m≤900)(hi0:0≤i)(hi1:i≤9223372036854775807)(hyy:y≤9223372036854775807)(hE:Hid (Vo q)):
  Calls Tryz.prog 57 #[.pointer (some ⟨g,0,none⟩),.int .i64 i,.int .i64 y] w (MadeDo base g q (filF (plO q) i y).1 (filF (plO q) i y).2.1 (filF (plO q) i y).2.2.1 (filF (plO q) i y).2.2.2 w):=by
 obtain⟨Y,Z,ra,ta,A,B,C,T,Q,U,c,d,f,nd,ac,sy,Ab,I,O,G,An,Au,V,n2,d1,d2,cl,cu,ep,t⟩:=q;obtain⟨v1,v2,bX,v3,v4,v5,v6,v7,v8,v9,bt⟩:=hv.o;obtain⟨l1,l2,l3,l4,l5,l6⟩:=(⟨h.o.l1,h.o.l2,h.o.l3,h.o.l4,h.o.l5,h.o.l6⟩:T=nd.length∧Q=ac.length∧U=sy.length∧I=G.length∧V=cl.length∧n2=cu.length);have L1:=κ l1;have L2:=κ l2;have L3:=κ l3;have L4:=κ l4;have L5:=κ l5;have L6:=κ l6;have V4:=κ v4;have V5:=κ v5;have V7:=κ v7;have V9:=κ v9;have bY:=κ bt;simp only at v1 v2 bX v3 v6 v8;obtain⟨j,bu⟩:=own_at h.o.row (by show 0<I;simp only at v7;omega);simp only at bu;subst bu;have bZ:I≤1000∧1≤I:=by simp only at v7;omega
 clear l1 l2 l3 l4 l5 l6 v4 v5 v7 v9 bt;have U0:=κ (β w (.cells (vI 0 0) 74));have Z0:=κ (Blk.fresh w 74 (vI 0 0));have M0:=κ (Mm_below h.o U0.o);have MZ:=κ (Mz_of h.o τ)
 go_enter Tryz.func57,Tryz.ntmps57
 go_upto_region 1 with fail
 generalize bv:w.heap.size=gZ at Z0 MZ ⊢;have co:=κ bv;have ay:Hid (w.heap.size≤gZ):=by show _≤_;omega
 clear bv;generalize (w.alloc (.cells (vI 0 0) 74))=w0 at Z0 U0 M0 ⊢;have K0:Hid (Blk w0 g 144 (vQ Y Z ra ta A T c B Q d C U f (some (α j 0)) I O An V d1 Au n2 d2 ep t)):=M0.o.blk;obtain⟨k0,k1,k2,k3,k4,k5,k6,k7,k8,k9,aK,aL,f0,f1,f2,f3,f4,f5,f6,f7,f8,f9,aM,aO⟩:=q12_of K0.o;have az:=shardOf_any base g ⟨Y,Z,ra,ta,A,B,C,T,Q,U,c,d,f,nd,ac,sy,some (α j 0),I,O,G,An,Au,V,n2,d1,d2,cl,cu,ep,t⟩ i w0 M0 ⟨by omega,hi1⟩ (by show 1≤I∧I≤1000;omega);obtain⟨a,aP,b0⟩:=tmod_at i I hi0 bZ.2;simp only at az;rw[aP]at az;have bw:Hid (shN (plO ⟨Y,Z,ra,ta,A,B,C,T,Q,U,c,d,f,nd,ac,sy,some (α j 0),I,O,G,An,Au,V,n2,d1,d2,cl,cu,ep,t⟩) i=a):=shN_of (n:=I) (by show I=(G.map Bx.b).length;rw[List.length_map];exact L4.o) aP;clear aP;have F:Hid (a<G.length):=by show _<_;rw[←L4.o];exact b0
 have ae:=own_room M0.o.row;have c0:=ae.2.2.2.2.2 (a*4) _ (by have:=bxs_get G a 0 F.o (by decide);exact this);have c1:=ae.2.2.2.2.2 (a*4+1) _ (by have:=bxs_get G a 1 F.o (by decide);exact this);have c2:=ae.2.2.2.2.2 (a*4+2) _ (by have:=bxs_get G a 2 F.o (by decide);exact this);have c3:=ae.2.2.2.2.2 (a*4+3) _ (by have:=bxs_get G a 3 F.o (by decide);exact this);clear ae;have af:=κ (M0.o.bm a F.o);have VB:=κ (V9.o a F.o)
 have aA:Hid (gB (plO ⟨Y,Z,ra,ta,A,B,C,T,Q,U,c,d,f,nd,ac,sy,some (α j 0),I,O,G,An,Au,V,n2,d1,d2,cl,cu,ep,t⟩).bs a=(gX G a).b):=by
  show(G.map Bx.b).getD a bk0=_;have h1:=F.o;simp[gX,h1]
 obtain⟨X,hX⟩:=ν (gX G a);rw[←hX]at aA;simp only at af VB;rw[←hX]at c0 c1 c2 c3 af VB;have HX:=κ hX;clear hX;obtain⟨XA,XC,xc,xd,b1,xb⟩:=X;obtain⟨aQ,aR⟩:=ν xb.sh;obtain⟨aS,aT⟩:=ν xb.ca;obtain⟨bx,aU⟩:=ν xb.rows.length;obtain⟨bz,aV⟩:=ν xb.op.length;simp only[bxV,List.getElem?_cons_zero,List.getElem?_cons_succ]at c0 c1 c2 c3;have ag:Hid (aQ=xb.sh∧aS=xb.ca):=⟨aR,aT⟩;have aW:=κ aU;have ah:=κ aV;simp only at VB af aA;have bA:=κ (VB.o.1.few (by omega));rw[←aR]at c0;rw[←aT]at c1;rw[←aU]at c2;rw[←aV]at c3;clear aR aT aU aV;have cp:decide ((a:Int)<(I:Int))=true:=by simp;omega
 have EK:Hid (∀e∈xb.op,EnK Q e):=by
  have h1:=hE.o a F.o;simp only at h1;rw[←HX.o]at h1;exact h1
 have aB:=find_any aQ aS XA XC bx bz xc xd xb.op i w0 ah (κ af.o.o) (by have:=bA.o.ol;have:=ah.o;omega);obtain⟨E,aX⟩:=ν (findE xb.op i);obtain⟨cq,bB⟩:=ν (findB xb.op i);rw[←aX,←bB]at aB;have aY:=κ aX;clear aX bB;obtain⟨ai,⟨ea,es,ex,eP,eQ,eN,eT⟩,eL,eS,eE⟩:=E;simp only[enA]at aB
 go_upto_region 2 with(refine az.mono ?_;rintro e w1 ⟨rfl,bC⟩;rw[bC];clear bC w1)
 go_wp2_with fail
 refine aB.mono ?_;rintro e w1 ⟨rfl,aZ⟩;have U3:=β w1 (.cells (vE ai ea es ex eP eQ eN eT eL eS eE) 203);have V3:=κ (Blk.fresh w1 203 (vE ai ea es ex eP eQ eN eT eL eS eE));have aj:=κ (CrdB.below_step aZ U3);have ak:=κ aZ.size;clear aZ U3 aB az
 go_upto_region 3 with fail
 clear k0 k1 k2 k3 k4 k5 k6 k7 k8 k9 aK aL f0 f1 f2 f3 f4 f5 f6 f7 f8 f9 aM aO c0 c1 c2 c3 K0;obtain⟨gE,aC⟩:=ν w1.heap.size;have E3:=κ (ζ aC V3.o);have bD:Hid (w0.heap.size≤gE):=by rw[aC];exact ak.o
 simp only[←aC];clear aC V3 ak;generalize w1.alloc (.cells (vE ai ea es ex eP eQ eN eT eL eS eE) 203)=wE at aj E3 ⊢;have ME:=κ (Mm_below M0.o aj.o);have KE:Hid (Blk wE g 144 (vQ Y Z ra ta A T c B Q d C U f (some (α j 0)) I O An V d1 Au n2 d2 ep t)):=ME.o.blk;obtain⟨k0,k1,k2,k3,k4,k5,k6,k7,k8,k9,aK,aL,f0,f1,f2,f3,f4,f5,f6,f7,f8,f9,aM,aO⟩:=q12_of KE.o;have am:=own_room ME.o.row;have a0:=am.2.2.2.2.2 (a*4) _ (by have:=bxs_get G a 0 F.o (by decide);rw[←HX.o]at this;exact this);have a1:=am.2.2.2.2.2 (a*4+1) _ (by have:=bxs_get G a 1 F.o (by decide);rw[←HX.o]at this;exact this);have a2:=am.2.2.2.2.2 (a*4+2) _ (by have:=bxs_get G a 2 F.o (by decide);rw[←HX.o]at this;exact this);have a3:=am.2.2.2.2.2 (a*4+3) _ (by have:=bxs_get G a 3 F.o (by decide);rw[←HX.o]at this;exact this);simp only[bxV,List.getElem?_cons_zero,List.getElem?_cons_succ]at a0 a1 a2 a3;rw[←ag.o.1]at a0;rw[←ag.o.2]at a1;rw[←aW.o]at a2;rw[←ah.o]at a3;clear am;have CX:=fill_any aQ aS XA XC bx bz xc xd b1 xb i y wE ag aW ah (κ (af.o.below aj.o)) bA (κ VB.o.1.lf) hyy;obtain⟨W,a4⟩:=ν ((fillF xb i y).1);obtain⟨cc,a5⟩:=ν ((fillF xb i y).2);obtain⟨H,a6⟩:=ν W.sh;obtain⟨J,a7⟩:=ν W.ca;obtain⟨K,a8⟩:=ν W.rows.length;obtain⟨S,a9⟩:=ν W.op.length;unfold MadeB2 at CX;rw[←a4,←a5]at CX
 have bE: ∀A7 C7 L R,bkA A7 C7 L R W= .agg (vB H J A7 K L C7 S R):=by
  intro A7 C7 L R;unfold bkA;rw[a6,a7,a8,a9]
 simp only[bE]at CX;have b2:=κ a4;have bF:=κ a5;have aD:Hid (H=W.sh∧J=W.ca∧K=W.rows.length∧S=W.op.length):=⟨a6,a7,a8,a9⟩;clear a4 a5 a6 a7 a8 a9 bE
 go_wp2_with fail
 refine CX.mono ?_;rintro e w2 ⟨A7,C7,L,R,P,rfl,ba,bG,bb⟩;have N2:=κ ba;have F7:=κ bG;have U3:=β w2 (.cells (vB H J A7 K L C7 S R) 181);have V3:=κ (Blk.fresh w2 181 (vB H J A7 K L C7 S R));have bc:=κ (CrdB.below_step bb U3);have bd:=κ (CrdB.below_step aj.o bc.o);have N7:=κ (ba.below U3);have E7:=κ (Blk.below' E3.o bc.o);have ak:=κ bb.size;clear ba bG bb U3 CX
 go_upto_region 4 with fail
 clear k0 k1 k2 k3 k4 k5 k6 k7 k8 k9 aK aL f0 f1 f2 f3 f4 f5 f6 f7 f8 f9 aM aO a0 a1 a2 a3 KE N2 bc E3;obtain⟨gV,aE⟩:=ν w2.heap.size;have V7:=κ (ζ aE V3.o);have ak:Hid (wE.heap.size≤gV):=by rw[aE];exact ak.o
 simp only[←aE];clear aE V3;generalize w2.alloc (.cells (vB H J A7 K L C7 S R) 181)=w3 at bd N7 V7 E7 ⊢;by_cases hcc0:cc=0
 case neg=>
  have t1:(cc != 0)=true:=by simp[hcc0]
  go_upto_region 5 with fail
  have b3:=κ (fil_no bw.o aA.o bF.o.symm hcc0)
  go_wp2_with fail
  refine(refused_any cc _).mono ?_;rintro e wR ⟨rfl,bH⟩;have be:=κ (CrdB.below_step bd.o bH);have MR:=κ (Mm_below M0.o be.o);have ZR:=κ (Blk.below' Z0.o be.o);have UR:Hid (Kp w wR g (some (α j 0))):=Kp_of_below (CrdB.below_step U0.o be.o);clear bH;obtain⟨z0,z1,z2,z3⟩:=q2b ZR.o;have zx:=χ ((blk_st ZR.o 0 (ι cc)).cell 1);have F3:Blk (st2 wR gZ (ι cc) (ι 0)) gZ 74 (vI cc 0):=st2_blk ZR.o
  have an:MadeDo base g ⟨Y,Z,ra,ta,A,B,C,T,Q,U,c,d,f,nd,ac,sy,some (α j 0),I,O,G,An,Au,V,n2,d1,d2,cl,cu,ep,t⟩ (plO ⟨Y,Z,ra,ta,A,B,C,T,Q,U,c,d,f,nd,ac,sy,some (α j 0),I,O,G,An,Au,V,n2,d1,d2,cl,cu,ep,t⟩) cc 0 [] w (.returned (.tuple #[.agg (vI cc 0),.slice none 0 0])) (st2 wR gZ (ι cc) (ι 0)):=by
   unfold st2;refine madeDo_no (q:=⟨Y,Z,ra,ta,A,B,C,T,Q,U,c,d,f,nd,ac,sy,some (α j 0),I,O,G,An,Au,V,n2,d1,d2,cl,cu,ep,t⟩) (Mm_setz (Mm_setz MR.o MZ.o ZR.o (by decide) 0 _) MZ.o (blk_st ZR.o 0 _) (by decide) 1 _) rfl rfl ?_ (fun z _ h=>Mz_same h);exact Kp_past (Kp_past UR.o ay.o 0 _) ay.o 1 _
  have HF:=κ an;clear an
  go_wp2_with fail
  obtain⟨e0,e1,_,_⟩:=q2b F3;clear F3;unfold st2 at e0 e1 HF;exact bodyPost_ret (v:= .tuple #[.agg #[ι cc,ι 0],.slice none 0 0]) (by simp[results,Tryz.results57,go_sem,e0,e1]) rfl (by first|exact HF.o|(rw[b3.o];exact HF.o))
 case pos=>
  have t1:(cc != 0)=false:=by simp[hcc0]
  have bf:(fillF xb i y).2=0:=by rw[←bF.o];exact hcc0
  have b4:=κ (fil_yes bw.o aA.o bf);have b5:=κ aj.o.size;obtain⟨b6,bI,aF⟩:=fill_ok bf;rw[←aY.o]at aF;simp only at aF;have bJ:=EK.o _ (find_mem b6);rw[←aY.o]at bJ;obtain⟨b7,b8,bg,bK,eW⟩:=bJ;simp only at b7 b8 bg bK eW;obtain⟨aN,b9⟩: ∃k:Nat,ea=k:=⟨ea.toNat,by omega⟩;subst b9;have cd:aN<Q:=by omega
  have hx:=mul_fits (p:=eP) (y:=y) (l:=eL) bg bI aF eW;have ce:=κ hx;clear hcc0 bf bI aF eW bg bK hx;have aG:Hid (gE≠j):=by show _≠_;have h1:=(Mm_lt M0.o).2 (α j 0) rfl;have h2:=ξ h1;have:=bD.o;omega
  have cr:Hid (gE≠g):=by show _≠_;have h1:=(Mm_lt M0.o).1;have:=bD.o;omega
  go_upto_region 6 with fail
  have ao:=κ (Below.drew bd.o);have Md:=κ (Mm_below M0.o ao.o);have aa:=κ (ε V7.o);have bh:=κ (Mm_lt M0.o);have cs:=κ (ξ (bh.o.2 (α j 0) rfl));have aH:=κ b5.o;have ap:=own_room Md.o.row;have aI:=ap.2.2.2.2.2 (a*4) _ (by have:=bxs_get G a 0 F.o (by decide);rw[←HX.o]at this;exact this);have aq:=ap.2.2.2.2.2 (a*4+1) _ (by have:=bxs_get G a 1 F.o (by decide);rw[←HX.o]at this;exact this);have ar:=ap.2.2.2.2.2 (a*4+2) _ (by have:=bxs_get G a 2 F.o (by decide);rw[←HX.o]at this;exact this);have au:=ap.2.2.2.2.2 (a*4+3) _ (by have:=bxs_get G a 3 F.o (by decide);rw[←HX.o]at this;exact this);simp only[bxV,List.getElem?_cons_zero,List.getElem?_cons_succ]at aI aq ar au;rw[←ag.o.1]at aI;rw[←ag.o.2]at aq;rw[←aW.o]at ar;rw[←ah.o]at au;clear ap;have ab:=own_room Md.o.row;have cf:=ξ ab.2.2.1;have bL:=(ab.2.2.2.2.1 (a*4) (show a*4<O*4 by omega)).2;have bi:=(ab.2.2.2.2.1 (a*4+1) (show a*4+1<O*4 by omega)).2;have bj:=(ab.2.2.2.2.1 (a*4+2) (show a*4+2<O*4 by omega)).2;have bk:=(ab.2.2.2.2.1 (a*4+3) (show a*4+3<O*4 by omega)).2;clear ab cf;have bM:=ω (α j (a*4)) (ι H) aq;have bN:=φ (α j (a*4)) (ι H) bi;have bO:=ω (α j (a*4+1)) (ι J) (ω (α j (a*4)) (ι H) ar);have bP:=φ (α j (a*4+1)) (ι J) (φ (α j (a*4)) (ι H) bj);have bQ:=ω (α j (a*4+2)) (.slice A7 K L) (ω (α j (a*4+1)) (ι J) (ω (α j (a*4)) (ι H) au));have bR:=φ (α j (a*4+2)) (.slice A7 K L) (φ (α j (a*4+1)) (ι J) (φ (α j (a*4)) (ι H) bk));let bS:World→Prop:=fun w'=>w'.cell? (α g 7)=some (.slice (some (α j 0)) I O)∧w'.cell? (α gV 0)=some (ι H)∧w'.cell? (α gV 1)=some (ι J)∧w'.cell? (α gV 2)=some (.slice A7 K L)∧w'.cell? (α gV 3)=some (.slice C7 S R)
  have HT:Hid (bS (w3.drew)):=⟨Md.o.blk.cell 7,aa.o.cell 0,aa.o.cell 1,aa.o.cell 2,aa.o.cell 3⟩
  have M9:Hid (Mm base ((((w3.drew.setCell (α j (a*4)) (ι H)).setCell (α j (a*4+1)) (ι J)).setCell (α j (a*4+2)) (.slice A7 K L)).setCell (α j (a*4+3)) (.slice C7 S R)) g ⟨Y,Z,ra,ta,A,B,C,T,Q,U,c,d,f,nd,ac,sy,some (α j 0),I,O,G.set a ⟨A7,C7,L,R,P,W⟩,An,Au,V,n2,d1,d2,cl,cu,ep,t⟩):=by
   have h9:=Mm_book Md.o rfl (i:=a) F.o (x:=⟨A7,C7,L,R,P,W⟩) (show Bm w3.drew A7 C7 P W from⟨N7.o.r,N7.o.e,N7.o.n,N7.o.o⟩) (FarX_new (base:=wE.heap.size) (by have:=bh.o.1;have:=aH.o;omega) (fun b hb=>by have:=bh.o.2 b hb;have:=aH.o;omega) F7.o);simp only[←aD.o.1,←aD.o.2.1,←aD.o.2.2.1,←aD.o.2.2.2]at h9;exact h9
  have av:Hid (gZ≠j):=fun e=>blk_own_ne Z0.o M0.o.row (by decide) (by rw[e];rfl)
  have Z9:Hid (Blk ((((w3.drew.setCell (α j (a*4)) (ι H)).setCell (α j (a*4+1)) (ι J)).setCell (α j (a*4+2)) (.slice A7 K L)).setCell (α j (a*4+3)) (.slice C7 S R)) gZ 74 (vI 0 0)):=(far_st (far_st (far_st (far_st (show Blk w3.drew gZ 74 (vI 0 0) from Blk.below' Z0.o ao.o) av.o _) av.o _) av.o _) av.o _);have aw:Hid (Kp w ((((w3.drew.setCell (α j (a*4)) (ι H)).setCell (α j (a*4+1)) (ι J)).setCell (α j (a*4+2)) (.slice A7 K L)).setCell (α j (a*4+3)) (.slice C7 S R)) g (some (α j 0))):=Kp_setb (Kp_setb (Kp_setb (Kp_setb (Kp_of_below (CrdB.below_step U0.o ao.o)) _ _) _ _) _ _) _ _
  have cg:Hid (∀z,z<w.heap.size→Mz z g ⟨Y,Z,ra,ta,A,B,C,T,Q,U,c,d,f,nd,ac,sy,some (α j 0),I,O,G,An,Au,V,n2,d1,d2,cl,cu,ep,t⟩→Mz z g ⟨Y,Z,ra,ta,A,B,C,T,Q,U,c,d,f,nd,ac,sy,some (α j 0),I,O,G.set a ⟨A7,C7,L,R,P,W⟩,An,Au,V,n2,d1,d2,cl,cu,ep,t⟩):=by
   intro z hz bl;have ct:=U0.o.size;exact Mz_book bl (i:=a) F.o (x:=⟨A7,C7,L,R,P,W⟩) (FzB_new (base:=wE.heap.size) (by have:=aH.o;omega) F7.o)
  have ad:=κ (ξ (Mz_book MZ.o (i:=a) F.o (x:=⟨A7,C7,L,R,P,W⟩) (FzB_new (base:=wE.heap.size) (by have:=Z0.o.lt;have:=aH.o;omega) F7.o)));have aJ:Hid (Blk ((((w3.drew.setCell (α j (a*4)) (ι H)).setCell (α j (a*4+1)) (ι J)).setCell (α j (a*4+2)) (.slice A7 K L)).setCell (α j (a*4+3)) (.slice C7 S R)) gE 203 (vE ai (aN:Int) es ex eP eQ eN eT eL eS eE)):=(far_st (far_st (far_st (far_st (show Blk w3.drew gE 203 (vE ai (aN:Int) es ex eP eQ eN eT eL eS eE) from E7.o) aG.o _) aG.o _) aG.o _) aG.o _)
  go_upto_region 6 with fail
  refine Ω bS [7] ?_;generalize w3.drew=w8 at ao Md aa aI aq ar au bL bi bj bk bM bO bQ bN bP bR HT M9 Z9 aw E7 aJ ⊢;refine jA 0 HT.o ?_;refine jA 1 HT.o ?_;refine jA 2 HT.o ?_;refine jB 3 HT.o ?_;refine jA 4 HT.o ?_;refine jB 5 HT.o ?_;refine jA 6 HT.o ?_;refine jV 7 fun K' hK=>?_
  go_simp;refine hK.out _ _ ?_;clear hK K';refine jP ?_;refine Δ ?_;clear aI aq ar au bL bi bj bk bM bO bQ bN bP bR HT aa Md ao
  go_upto_region 7 with fail
  generalize ((((w8.setCell (α j (a*4)) (ι H)).setCell (α j (a*4+1)) (ι J)).setCell (α j (a*4+2)) (.slice A7 K L)).setCell (α j (a*4+3)) (.slice C7 S R))=w9 at M9 Z9 aw aJ ⊢;have cv:=κ L2.o.symm;have RL:=mrelease_any base g aN ⟨Y,Z,ra,ta,A,B,C,T,Q,U,c,d,f,nd,ac,sy,some (α j 0),I,O,G.set a ⟨A7,C7,L,R,P,W⟩,An,Au,V,n2,d1,d2,cl,cu,ep,t⟩ es eP eQ eN eT y ex w9 M9 bY.o V5.o cd (by show Q≤100;exact v2) ce.o;unfold MadeRl at RL;obtain⟨UU,bn⟩:=ν (Cpl.relU cl cu (gI ac aN) (eP*y));simp only[←bn]at RL;have ch:=κ bn;clear bn;obtain⟨j0,j1,j2,j3,j4,j5,j6,j7,j8,j9,ci⟩:=q11_of aJ.o
  go_wp2_with fail
  refine RL.mono ?_;rintro e bT ⟨rfl,A5,A6,d5,d6,nU,bU,bo,bp,bq⟩;have cj:=κ bU;have br:=Z9.o.lt;have ax:=κ (blk_kp Z9.o bq ad.o.ne av.o);have ck:=κ (Kp_trans aw.o bq);have bV:Hid (Mz gZ g ⟨Y,Z,ra,ta,A,B,C,T,Q,U,c,d,f,nd,ac,sy,some (α j 0),I,O,G.set a ⟨A7,C7,L,R,P,W⟩,A5,A6,V,nU,d5,d6,cl,UU,ep,t⟩):=⟨ad.o.ne,ad.o.z1,ad.o.z2,ad.o.z3,FarE_new br bo,FarE_new br bp,ad.o.zx⟩
  have cm:Hid (filF (plO ⟨Y,Z,ra,ta,A,B,C,T,Q,U,c,d,f,nd,ac,sy,some (α j 0),I,O,G,An,Au,V,n2,d1,d2,cl,cu,ep,t⟩) i y=(plO ⟨Y,Z,ra,ta,A,B,C,T,Q,U,c,d,f,nd,ac,sy,some (α j 0),I,O,G.set a ⟨A7,C7,L,R,P,W⟩,A5,A6,V,nU,d5,d6,cl,UU,ep,t⟩,(0,0,[]))):=by
   show _=_;rw[b4.o];unfold plO relP;simp only[List.map_set,←b2.o,←aY.o,Int.toNat_natCast,←ch.o]
  have cn:Hid (∀z,z<w.heap.size→Mz z g ⟨Y,Z,ra,ta,A,B,C,T,Q,U,c,d,f,nd,ac,sy,some (α j 0),I,O,G,An,Au,V,n2,d1,d2,cl,cu,ep,t⟩→Mz z g ⟨Y,Z,ra,ta,A,B,C,T,Q,U,c,d,f,nd,ac,sy,some (α j 0),I,O,G.set a ⟨A7,C7,L,R,P,W⟩,A5,A6,V,nU,d5,d6,cl,UU,ep,t⟩):=by
   intro z hz bl;have h9:=cg.o z hz bl;have bW:=Nat.lt_of_lt_of_le hz aw.o.size;exact⟨h9.ne,h9.z1,h9.z2,h9.z3,FarE_new bW bo,FarE_new bW bp,h9.zx⟩
  clear bU bo bp bq br j0 j1 j2 j3 j4 j5 j6 j7 j8 j9 ci aJ M9 Z9 aw RL;obtain⟨z0,z1,z2,z3⟩:=q2b ax.o;have zx:=χ ((blk_st ax.o 0 (ι 0)).cell 1);have F3:Blk (st2 bT gZ (ι 0) (ι 0)) gZ 74 (vI 0 0):=st2_blk ax.o
  have an:MadeDo base g ⟨Y,Z,ra,ta,A,B,C,T,Q,U,c,d,f,nd,ac,sy,some (α j 0),I,O,G,An,Au,V,n2,d1,d2,cl,cu,ep,t⟩ (plO ⟨Y,Z,ra,ta,A,B,C,T,Q,U,c,d,f,nd,ac,sy,some (α j 0),I,O,G.set a ⟨A7,C7,L,R,P,W⟩,A5,A6,V,nU,d5,d6,cl,UU,ep,t⟩) 0 0 [] w (.returned (.tuple #[.agg (vI 0 0),.slice none 0 0])) (st2 bT gZ (ι 0) (ι 0)):=by
   unfold st2;refine madeDo_no (q:=⟨Y,Z,ra,ta,A,B,C,T,Q,U,c,d,f,nd,ac,sy,some (α j 0),I,O,G.set a ⟨A7,C7,L,R,P,W⟩,A5,A6,V,nU,d5,d6,cl,UU,ep,t⟩) (Mm_setz (Mm_setz cj.o bV.o ax.o (by decide) 0 _) bV.o (blk_st ax.o 0 _) (by decide) 1 _) rfl rfl ?_ cn.o;exact Kp_past (Kp_past ck.o ay.o 0 _) ay.o 1 _
  have HF:=κ an;clear an
  go_wp2_with fail
  obtain⟨e0,e1,_,_⟩:=q2b F3;clear F3;unfold st2 at e0 e1 HF;exact bodyPost_ret (v:= .tuple #[.agg #[ι 0,ι 0],.slice none 0 0]) (by simp[results,Tryz.results57,go_sem,e0,e1]) rfl (by first|exact HF.o|(rw[cm.o];exact HF.o))
theorem mack_any(base g m:Nat)(q:Mq)(i:Int)(w:World)(h:Hid (Mm base w g q))(hv:Hid (Vq m q))(hm:m≤900)(hi0:0≤i)(hi1:i≤9223372036854775807)(hE:Hid (Vo q)):
  Calls Tryz.prog 58 #[.pointer (some ⟨g,0,none⟩),.int .i64 i] w (MadeDo base g q (akF (plO q) i).1 (akF (plO q) i).2.1 (akF (plO q) i).2.2.1 (akF (plO q) i).2.2.2 w):=by
 obtain⟨Y,Z,ra,ta,A,B,C,T,Q,U,c,d,f,nd,ac,sy,Ab,I,O,G,An,Au,V,n2,d1,d2,cl,cu,ep,t⟩:=q;obtain⟨v1,v2,bX,v3,v4,v5,v6,v7,v8,v9,bt⟩:=hv.o;obtain⟨l1,l2,l3,l4,l5,l6⟩:=(⟨h.o.l1,h.o.l2,h.o.l3,h.o.l4,h.o.l5,h.o.l6⟩:T=nd.length∧Q=ac.length∧U=sy.length∧I=G.length∧V=cl.length∧n2=cu.length);have L1:=κ l1;have L2:=κ l2;have L3:=κ l3;have L4:=κ l4;have L5:=κ l5;have L6:=κ l6;have V4:=κ v4;have V5:=κ v5;have V7:=κ v7;have V9:=κ v9;have bY:=κ bt;simp only at v1 v2 bX v3 v6 v8;obtain⟨j,bu⟩:=own_at h.o.row (by show 0<I;simp only at v7;omega);simp only at bu;subst bu;have bZ:I≤1000∧1≤I:=by simp only at v7;omega
 clear l1 l2 l3 l4 l5 l6 v4 v5 v7 v9 bt;have U0:=κ (β w (.cells (vI 0 0) 74));have Z0:=κ (Blk.fresh w 74 (vI 0 0));have M0:=κ (Mm_below h.o U0.o);have MZ:=κ (Mz_of h.o τ)
 go_enter Tryz.func58,Tryz.ntmps58
 go_upto_region 1 with fail
 generalize bv:w.heap.size=gZ at Z0 MZ ⊢;have co:=κ bv;have ay:Hid (w.heap.size≤gZ):=by show _≤_;omega
 clear bv;generalize (w.alloc (.cells (vI 0 0) 74))=w0 at Z0 U0 M0 ⊢;have K0:Hid (Blk w0 g 144 (vQ Y Z ra ta A T c B Q d C U f (some (α j 0)) I O An V d1 Au n2 d2 ep t)):=M0.o.blk;obtain⟨k0,k1,k2,k3,k4,k5,k6,k7,k8,k9,aJ,aK,f0,f1,f2,f3,f4,f5,f6,f7,f8,f9,aL,aM⟩:=q12_of K0.o;have az:=shardOf_any base g ⟨Y,Z,ra,ta,A,B,C,T,Q,U,c,d,f,nd,ac,sy,some (α j 0),I,O,G,An,Au,V,n2,d1,d2,cl,cu,ep,t⟩ i w0 M0 ⟨by omega,hi1⟩ (by show 1≤I∧I≤1000;omega);obtain⟨a,aO,b0⟩:=tmod_at i I hi0 bZ.2;simp only at az;rw[aO]at az;have bw:Hid (shN (plO ⟨Y,Z,ra,ta,A,B,C,T,Q,U,c,d,f,nd,ac,sy,some (α j 0),I,O,G,An,Au,V,n2,d1,d2,cl,cu,ep,t⟩) i=a):=shN_of (n:=I) (by show I=(G.map Bx.b).length;rw[List.length_map];exact L4.o) aO;clear aO;have F:Hid (a<G.length):=by show _<_;rw[←L4.o];exact b0
 have ae:=own_room M0.o.row;have c0:=ae.2.2.2.2.2 (a*4) _ (by have:=bxs_get G a 0 F.o (by decide);exact this);have c1:=ae.2.2.2.2.2 (a*4+1) _ (by have:=bxs_get G a 1 F.o (by decide);exact this);have c2:=ae.2.2.2.2.2 (a*4+2) _ (by have:=bxs_get G a 2 F.o (by decide);exact this);have c3:=ae.2.2.2.2.2 (a*4+3) _ (by have:=bxs_get G a 3 F.o (by decide);exact this);clear ae;have af:=κ (M0.o.bm a F.o);have VB:=κ (V9.o a F.o)
 have aA:Hid (gB (plO ⟨Y,Z,ra,ta,A,B,C,T,Q,U,c,d,f,nd,ac,sy,some (α j 0),I,O,G,An,Au,V,n2,d1,d2,cl,cu,ep,t⟩).bs a=(gX G a).b):=by
  show(G.map Bx.b).getD a bk0=_;have h1:=F.o;simp[gX,h1]
 obtain⟨X,hX⟩:=ν (gX G a);rw[←hX]at aA;simp only at af VB;rw[←hX]at c0 c1 c2 c3 af VB;have HX:=κ hX;clear hX;obtain⟨XA,XC,xc,xd,b1,xb⟩:=X;obtain⟨aP,aQ⟩:=ν xb.sh;obtain⟨aR,aS⟩:=ν xb.ca;obtain⟨bx,aT⟩:=ν xb.rows.length;obtain⟨bz,aU⟩:=ν xb.op.length;simp only[bxV,List.getElem?_cons_zero,List.getElem?_cons_succ]at c0 c1 c2 c3;have ag:Hid (aP=xb.sh∧aR=xb.ca):=⟨aQ,aS⟩;have aV:=κ aT;have ah:=κ aU;simp only at VB af aA;have bA:=κ (VB.o.1.few (by omega));rw[←aQ]at c0;rw[←aS]at c1;rw[←aT]at c2;rw[←aU]at c3;clear aQ aS aT aU;have cp:decide ((a:Int)<(I:Int))=true:=by simp;omega
 have EK:Hid (∀e∈xb.op,EnK Q e):=by
  have h1:=hE.o a F.o;simp only at h1;rw[←HX.o]at h1;exact h1
 have aB:=find_any aP aR XA XC bx bz xc xd xb.op i w0 ah (κ af.o.o) (by have:=bA.o.ol;have:=ah.o;omega);obtain⟨E,aW⟩:=ν (findE xb.op i);obtain⟨cq,bB⟩:=ν (findB xb.op i);rw[←aW,←bB]at aB;have aX:=κ aW;clear aW bB;obtain⟨ai,⟨ea,es,ex,eP,eQ,eN,eT⟩,eL,eS,eE⟩:=E;simp only[enA]at aB
 go_upto_region 2 with(refine az.mono ?_;rintro e w1 ⟨rfl,bC⟩;rw[bC];clear bC w1)
 go_wp2_with fail
 refine aB.mono ?_;rintro e w1 ⟨rfl,aY⟩;have U3:=β w1 (.cells (vE ai ea es ex eP eQ eN eT eL eS eE) 203);have V3:=κ (Blk.fresh w1 203 (vE ai ea es ex eP eQ eN eT eL eS eE));have aj:=κ (CrdB.below_step aY U3);have ak:=κ aY.size;clear aY U3 aB az
 go_upto_region 3 with fail
 clear k0 k1 k2 k3 k4 k5 k6 k7 k8 k9 aJ aK f0 f1 f2 f3 f4 f5 f6 f7 f8 f9 aL aM c0 c1 c2 c3 K0;obtain⟨gE,aC⟩:=ν w1.heap.size;have E3:=κ (ζ aC V3.o);have bD:Hid (w0.heap.size≤gE):=by rw[aC];exact ak.o
 simp only[←aC];clear aC V3 ak;generalize w1.alloc (.cells (vE ai ea es ex eP eQ eN eT eL eS eE) 203)=wE at aj E3 ⊢;have ME:=κ (Mm_below M0.o aj.o);have KE:Hid (Blk wE g 144 (vQ Y Z ra ta A T c B Q d C U f (some (α j 0)) I O An V d1 Au n2 d2 ep t)):=ME.o.blk;obtain⟨k0,k1,k2,k3,k4,k5,k6,k7,k8,k9,aJ,aK,f0,f1,f2,f3,f4,f5,f6,f7,f8,f9,aL,aM⟩:=q12_of KE.o;have am:=own_room ME.o.row;have aZ:=am.2.2.2.2.2 (a*4) _ (by have:=bxs_get G a 0 F.o (by decide);rw[←HX.o]at this;exact this);have a0:=am.2.2.2.2.2 (a*4+1) _ (by have:=bxs_get G a 1 F.o (by decide);rw[←HX.o]at this;exact this);have a1:=am.2.2.2.2.2 (a*4+2) _ (by have:=bxs_get G a 2 F.o (by decide);rw[←HX.o]at this;exact this);have a2:=am.2.2.2.2.2 (a*4+3) _ (by have:=bxs_get G a 3 F.o (by decide);rw[←HX.o]at this;exact this);simp only[bxV,List.getElem?_cons_zero,List.getElem?_cons_succ]at aZ a0 a1 a2;rw[←ag.o.1]at aZ;rw[←ag.o.2]at a0;rw[←aV.o]at a1;rw[←ah.o]at a2;clear am;have CX:=ack_any aP aR XA XC bx bz xc xd b1 xb i wE ag aV ah (κ (af.o.below aj.o)) bA;obtain⟨W,a3⟩:=ν ((ackF xb i).1);obtain⟨cc,a4⟩:=ν ((ackF xb i).2);obtain⟨H,a5⟩:=ν W.sh;obtain⟨J,a6⟩:=ν W.ca;obtain⟨K,a7⟩:=ν W.rows.length;obtain⟨S,a8⟩:=ν W.op.length;unfold MadeB2 at CX;rw[←a3,←a4]at CX
 have bE: ∀A7 C7 L R,bkA A7 C7 L R W= .agg (vB H J A7 K L C7 S R):=by
  intro A7 C7 L R;unfold bkA;rw[a5,a6,a7,a8]
 simp only[bE]at CX;have b2:=κ a3;have bF:=κ a4;have aD:Hid (H=W.sh∧J=W.ca∧K=W.rows.length∧S=W.op.length):=⟨a5,a6,a7,a8⟩;clear a3 a4 a5 a6 a7 a8 bE
 go_wp2_with fail
 refine CX.mono ?_;rintro e w2 ⟨A7,C7,L,R,P,rfl,a9,bG,ba⟩;have N2:=κ a9;have F7:=κ bG;have U3:=β w2 (.cells (vB H J A7 K L C7 S R) 181);have V3:=κ (Blk.fresh w2 181 (vB H J A7 K L C7 S R));have bb:=κ (CrdB.below_step ba U3);have bc:=κ (CrdB.below_step aj.o bb.o);have N7:=κ (a9.below U3);have E7:=κ (Blk.below' E3.o bb.o);have ak:=κ ba.size;clear a9 bG ba U3 CX
 go_upto_region 4 with fail
 clear k0 k1 k2 k3 k4 k5 k6 k7 k8 k9 aJ aK f0 f1 f2 f3 f4 f5 f6 f7 f8 f9 aL aM aZ a0 a1 a2 KE N2 bb E3;obtain⟨gV,aE⟩:=ν w2.heap.size;have V7:=κ (ζ aE V3.o);have ak:Hid (wE.heap.size≤gV):=by rw[aE];exact ak.o
 simp only[←aE];clear aE V3;generalize w2.alloc (.cells (vB H J A7 K L C7 S R) 181)=w3 at bc N7 V7 E7 ⊢;by_cases hcc0:cc=0
 case neg=>
  have t1:(cc != 0)=true:=by simp[hcc0]
  go_upto_region 5 with fail
  have b3:=κ (ak_no bw.o aA.o bF.o.symm hcc0)
  go_wp2_with fail
  refine(refused_any cc _).mono ?_;rintro e wR ⟨rfl,bH⟩;have bd:=κ (CrdB.below_step bc.o bH);have MR:=κ (Mm_below M0.o bd.o);have ZR:=κ (Blk.below' Z0.o bd.o);have UR:Hid (Kp w wR g (some (α j 0))):=Kp_of_below (CrdB.below_step U0.o bd.o);clear bH;obtain⟨z0,z1,z2,z3⟩:=q2b ZR.o;have zx:=χ ((blk_st ZR.o 0 (ι cc)).cell 1);have F3:Blk (st2 wR gZ (ι cc) (ι 0)) gZ 74 (vI cc 0):=st2_blk ZR.o
  have an:MadeDo base g ⟨Y,Z,ra,ta,A,B,C,T,Q,U,c,d,f,nd,ac,sy,some (α j 0),I,O,G,An,Au,V,n2,d1,d2,cl,cu,ep,t⟩ (plO ⟨Y,Z,ra,ta,A,B,C,T,Q,U,c,d,f,nd,ac,sy,some (α j 0),I,O,G,An,Au,V,n2,d1,d2,cl,cu,ep,t⟩) cc 0 [] w (.returned (.tuple #[.agg (vI cc 0),.slice none 0 0])) (st2 wR gZ (ι cc) (ι 0)):=by
   unfold st2;refine madeDo_no (q:=⟨Y,Z,ra,ta,A,B,C,T,Q,U,c,d,f,nd,ac,sy,some (α j 0),I,O,G,An,Au,V,n2,d1,d2,cl,cu,ep,t⟩) (Mm_setz (Mm_setz MR.o MZ.o ZR.o (by decide) 0 _) MZ.o (blk_st ZR.o 0 _) (by decide) 1 _) rfl rfl ?_ (fun z _ h=>Mz_same h);exact Kp_past (Kp_past UR.o ay.o 0 _) ay.o 1 _
  have HF:=κ an;clear an
  go_wp2_with fail
  obtain⟨e0,e1,_,_⟩:=q2b F3;clear F3;unfold st2 at e0 e1 HF;exact bodyPost_ret (v:= .tuple #[.agg #[ι cc,ι 0],.slice none 0 0]) (by simp[results,Tryz.results58,go_sem,e0,e1]) rfl (by first|exact HF.o|(rw[b3.o];exact HF.o))
 case pos=>
  have t1:(cc != 0)=false:=by simp[hcc0]
  have be:(ackF xb i).2=0:=by rw[←bF.o];exact hcc0
  have b4:=κ (ak_yes bw.o aA.o be);have b5:=κ aj.o.size;have b6:=ack_ok be;have bf:=EK.o _ (find_mem b6);have bI:1≤eL:=by have h1:=bf.2.2.2.1;rw[←aX.o]at h1;exact h1
  have bJ:eL≤eL:=Int.le_refl _;rw[←aX.o]at bf;obtain⟨b7,b8,bg,bK,eW⟩:=bf;simp only at b7 b8 bg bK eW;obtain⟨aN,b9⟩: ∃k:Nat,ea=k:=⟨ea.toNat,by omega⟩;subst b9;have cd:aN<Q:=by omega
  have hx:=mul_fits (p:=eP) (y:=eL) (l:=eL) bg bI bJ eW;have ce:=κ hx;clear hcc0 be bI bJ eW bg bK hx;have aF:Hid (gE≠j):=by show _≠_;have h1:=(Mm_lt M0.o).2 (α j 0) rfl;have h2:=ξ h1;have:=bD.o;omega
  have cr:Hid (gE≠g):=by show _≠_;have h1:=(Mm_lt M0.o).1;have:=bD.o;omega
  go_upto_region 6 with fail
  have ao:=κ (Below.drew bc.o);have Md:=κ (Mm_below M0.o ao.o);have aa:=κ (ε V7.o);have bh:=κ (Mm_lt M0.o);have cs:=κ (ξ (bh.o.2 (α j 0) rfl));have aG:=κ b5.o;have ap:=own_room Md.o.row;have aH:=ap.2.2.2.2.2 (a*4) _ (by have:=bxs_get G a 0 F.o (by decide);rw[←HX.o]at this;exact this);have aq:=ap.2.2.2.2.2 (a*4+1) _ (by have:=bxs_get G a 1 F.o (by decide);rw[←HX.o]at this;exact this);have ar:=ap.2.2.2.2.2 (a*4+2) _ (by have:=bxs_get G a 2 F.o (by decide);rw[←HX.o]at this;exact this);have au:=ap.2.2.2.2.2 (a*4+3) _ (by have:=bxs_get G a 3 F.o (by decide);rw[←HX.o]at this;exact this);simp only[bxV,List.getElem?_cons_zero,List.getElem?_cons_succ]at aH aq ar au;rw[←ag.o.1]at aH;rw[←ag.o.2]at aq;rw[←aV.o]at ar;rw[←ah.o]at au;clear ap;have ab:=own_room Md.o.row;have cf:=ξ ab.2.2.1;have bL:=(ab.2.2.2.2.1 (a*4) (show a*4<O*4 by omega)).2;have bi:=(ab.2.2.2.2.1 (a*4+1) (show a*4+1<O*4 by omega)).2;have bj:=(ab.2.2.2.2.1 (a*4+2) (show a*4+2<O*4 by omega)).2;have bk:=(ab.2.2.2.2.1 (a*4+3) (show a*4+3<O*4 by omega)).2;clear ab cf;have bM:=ω (α j (a*4)) (ι H) aq;have bN:=φ (α j (a*4)) (ι H) bi;have bO:=ω (α j (a*4+1)) (ι J) (ω (α j (a*4)) (ι H) ar);have bP:=φ (α j (a*4+1)) (ι J) (φ (α j (a*4)) (ι H) bj);have bQ:=ω (α j (a*4+2)) (.slice A7 K L) (ω (α j (a*4+1)) (ι J) (ω (α j (a*4)) (ι H) au));have bR:=φ (α j (a*4+2)) (.slice A7 K L) (φ (α j (a*4+1)) (ι J) (φ (α j (a*4)) (ι H) bk));let bS:World→Prop:=fun w'=>w'.cell? (α g 7)=some (.slice (some (α j 0)) I O)∧w'.cell? (α gV 0)=some (ι H)∧w'.cell? (α gV 1)=some (ι J)∧w'.cell? (α gV 2)=some (.slice A7 K L)∧w'.cell? (α gV 3)=some (.slice C7 S R)
  have HT:Hid (bS (w3.drew)):=⟨Md.o.blk.cell 7,aa.o.cell 0,aa.o.cell 1,aa.o.cell 2,aa.o.cell 3⟩
  have M9:Hid (Mm base ((((w3.drew.setCell (α j (a*4)) (ι H)).setCell (α j (a*4+1)) (ι J)).setCell (α j (a*4+2)) (.slice A7 K L)).setCell (α j (a*4+3)) (.slice C7 S R)) g ⟨Y,Z,ra,ta,A,B,C,T,Q,U,c,d,f,nd,ac,sy,some (α j 0),I,O,G.set a ⟨A7,C7,L,R,P,W⟩,An,Au,V,n2,d1,d2,cl,cu,ep,t⟩):=by
   have h9:=Mm_book Md.o rfl (i:=a) F.o (x:=⟨A7,C7,L,R,P,W⟩) (show Bm w3.drew A7 C7 P W from⟨N7.o.r,N7.o.e,N7.o.n,N7.o.o⟩) (FarX_new (base:=wE.heap.size) (by have:=bh.o.1;have:=aG.o;omega) (fun b hb=>by have:=bh.o.2 b hb;have:=aG.o;omega) F7.o);simp only[←aD.o.1,←aD.o.2.1,←aD.o.2.2.1,←aD.o.2.2.2]at h9;exact h9
  have av:Hid (gZ≠j):=fun e=>blk_own_ne Z0.o M0.o.row (by decide) (by rw[e];rfl)
  have Z9:Hid (Blk ((((w3.drew.setCell (α j (a*4)) (ι H)).setCell (α j (a*4+1)) (ι J)).setCell (α j (a*4+2)) (.slice A7 K L)).setCell (α j (a*4+3)) (.slice C7 S R)) gZ 74 (vI 0 0)):=(far_st (far_st (far_st (far_st (show Blk w3.drew gZ 74 (vI 0 0) from Blk.below' Z0.o ao.o) av.o _) av.o _) av.o _) av.o _);have aw:Hid (Kp w ((((w3.drew.setCell (α j (a*4)) (ι H)).setCell (α j (a*4+1)) (ι J)).setCell (α j (a*4+2)) (.slice A7 K L)).setCell (α j (a*4+3)) (.slice C7 S R)) g (some (α j 0))):=Kp_setb (Kp_setb (Kp_setb (Kp_setb (Kp_of_below (CrdB.below_step U0.o ao.o)) _ _) _ _) _ _) _ _
  have cg:Hid (∀z,z<w.heap.size→Mz z g ⟨Y,Z,ra,ta,A,B,C,T,Q,U,c,d,f,nd,ac,sy,some (α j 0),I,O,G,An,Au,V,n2,d1,d2,cl,cu,ep,t⟩→Mz z g ⟨Y,Z,ra,ta,A,B,C,T,Q,U,c,d,f,nd,ac,sy,some (α j 0),I,O,G.set a ⟨A7,C7,L,R,P,W⟩,An,Au,V,n2,d1,d2,cl,cu,ep,t⟩):=by
   intro z hz bl;have ct:=U0.o.size;exact Mz_book bl (i:=a) F.o (x:=⟨A7,C7,L,R,P,W⟩) (FzB_new (base:=wE.heap.size) (by have:=aG.o;omega) F7.o)
  have ad:=κ (ξ (Mz_book MZ.o (i:=a) F.o (x:=⟨A7,C7,L,R,P,W⟩) (FzB_new (base:=wE.heap.size) (by have:=Z0.o.lt;have:=aG.o;omega) F7.o)));have aI:Hid (Blk ((((w3.drew.setCell (α j (a*4)) (ι H)).setCell (α j (a*4+1)) (ι J)).setCell (α j (a*4+2)) (.slice A7 K L)).setCell (α j (a*4+3)) (.slice C7 S R)) gE 203 (vE ai (aN:Int) es ex eP eQ eN eT eL eS eE)):=(far_st (far_st (far_st (far_st (show Blk w3.drew gE 203 (vE ai (aN:Int) es ex eP eQ eN eT eL eS eE) from E7.o) aF.o _) aF.o _) aF.o _) aF.o _)
  go_upto_region 6 with fail
  refine Ω bS [7] ?_;generalize w3.drew=w8 at ao Md aa aH aq ar au bL bi bj bk bM bO bQ bN bP bR HT M9 Z9 aw E7 aI ⊢;refine jA 0 HT.o ?_;refine jA 1 HT.o ?_;refine jA 2 HT.o ?_;refine jB 3 HT.o ?_;refine jA 4 HT.o ?_;refine jB 5 HT.o ?_;refine jA 6 HT.o ?_;refine jV 7 fun K' hK=>?_
  go_simp;refine hK.out _ _ ?_;clear hK K';refine jP ?_;refine Δ ?_;clear aH aq ar au bL bi bj bk bM bO bQ bN bP bR HT aa Md ao
  go_upto_region 7 with fail
  generalize ((((w8.setCell (α j (a*4)) (ι H)).setCell (α j (a*4+1)) (ι J)).setCell (α j (a*4+2)) (.slice A7 K L)).setCell (α j (a*4+3)) (.slice C7 S R))=w9 at M9 Z9 aw aI ⊢;have cv:=κ L2.o.symm;have RL:=mrelease_any base g aN ⟨Y,Z,ra,ta,A,B,C,T,Q,U,c,d,f,nd,ac,sy,some (α j 0),I,O,G.set a ⟨A7,C7,L,R,P,W⟩,An,Au,V,n2,d1,d2,cl,cu,ep,t⟩ es eP eQ eN eT eL ex w9 M9 bY.o V5.o cd (by show Q≤100;exact v2) ce.o;unfold MadeRl at RL;obtain⟨UU,bn⟩:=ν (Cpl.relU cl cu (gI ac aN) (eP*eL));simp only[←bn]at RL;have ch:=κ bn;clear bn;obtain⟨j0,j1,j2,j3,j4,j5,j6,j7,j8,j9,ci⟩:=q11_of aI.o
  go_wp2_with fail
  refine RL.mono ?_;rintro e bT ⟨rfl,A5,A6,d5,d6,nU,bU,bo,bp,bq⟩;have cj:=κ bU;have br:=Z9.o.lt;have ax:=κ (blk_kp Z9.o bq ad.o.ne av.o);have ck:=κ (Kp_trans aw.o bq);have bV:Hid (Mz gZ g ⟨Y,Z,ra,ta,A,B,C,T,Q,U,c,d,f,nd,ac,sy,some (α j 0),I,O,G.set a ⟨A7,C7,L,R,P,W⟩,A5,A6,V,nU,d5,d6,cl,UU,ep,t⟩):=⟨ad.o.ne,ad.o.z1,ad.o.z2,ad.o.z3,FarE_new br bo,FarE_new br bp,ad.o.zx⟩
  have cm:Hid (akF (plO ⟨Y,Z,ra,ta,A,B,C,T,Q,U,c,d,f,nd,ac,sy,some (α j 0),I,O,G,An,Au,V,n2,d1,d2,cl,cu,ep,t⟩) i=(plO ⟨Y,Z,ra,ta,A,B,C,T,Q,U,c,d,f,nd,ac,sy,some (α j 0),I,O,G.set a ⟨A7,C7,L,R,P,W⟩,A5,A6,V,nU,d5,d6,cl,UU,ep,t⟩,(0,0,[]))):=by
   show _=_;rw[b4.o];unfold plO relP;simp only[List.map_set,←b2.o,←aX.o,Int.toNat_natCast,←ch.o]
  have cn:Hid (∀z,z<w.heap.size→Mz z g ⟨Y,Z,ra,ta,A,B,C,T,Q,U,c,d,f,nd,ac,sy,some (α j 0),I,O,G,An,Au,V,n2,d1,d2,cl,cu,ep,t⟩→Mz z g ⟨Y,Z,ra,ta,A,B,C,T,Q,U,c,d,f,nd,ac,sy,some (α j 0),I,O,G.set a ⟨A7,C7,L,R,P,W⟩,A5,A6,V,nU,d5,d6,cl,UU,ep,t⟩):=by
   intro z hz bl;have h9:=cg.o z hz bl;have bW:=Nat.lt_of_lt_of_le hz aw.o.size;exact⟨h9.ne,h9.z1,h9.z2,h9.z3,FarE_new bW bo,FarE_new bW bp,h9.zx⟩
  clear bU bo bp bq br j0 j1 j2 j3 j4 j5 j6 j7 j8 j9 ci aI M9 Z9 aw RL;obtain⟨z0,z1,z2,z3⟩:=q2b ax.o;have zx:=χ ((blk_st ax.o 0 (ι 0)).cell 1);have F3:Blk (st2 bT gZ (ι 0) (ι 0)) gZ 74 (vI 0 0):=st2_blk ax.o
  have an:MadeDo base g ⟨Y,Z,ra,ta,A,B,C,T,Q,U,c,d,f,nd,ac,sy,some (α j 0),I,O,G,An,Au,V,n2,d1,d2,cl,cu,ep,t⟩ (plO ⟨Y,Z,ra,ta,A,B,C,T,Q,U,c,d,f,nd,ac,sy,some (α j 0),I,O,G.set a ⟨A7,C7,L,R,P,W⟩,A5,A6,V,nU,d5,d6,cl,UU,ep,t⟩) 0 0 [] w (.returned (.tuple #[.agg (vI 0 0),.slice none 0 0])) (st2 bT gZ (ι 0) (ι 0)):=by
   unfold st2;refine madeDo_no (q:=⟨Y,Z,ra,ta,A,B,C,T,Q,U,c,d,f,nd,ac,sy,some (α j 0),I,O,G.set a ⟨A7,C7,L,R,P,W⟩,A5,A6,V,nU,d5,d6,cl,UU,ep,t⟩) (Mm_setz (Mm_setz cj.o bV.o ax.o (by decide) 0 _) bV.o (blk_st ax.o 0 _) (by decide) 1 _) rfl rfl ?_ cn.o;exact Kp_past (Kp_past ck.o ay.o 0 _) ay.o 1 _
  have HF:=κ an;clear an
  go_wp2_with fail
  obtain⟨e0,e1,_,_⟩:=q2b F3;clear F3;unfold st2 at e0 e1 HF;exact bodyPost_ret (v:= .tuple #[.agg #[ι 0,ι 0],.slice none 0 0]) (by simp[results,Tryz.results58,go_sem,e0,e1]) rfl (by first|exact HF.o|(rw[cm.o];exact HF.o))
end Mdj
end Go.Proofs.YtcccdikhfgpamaaGreat
