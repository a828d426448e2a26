/- Texts side by side. -/
import Derived.Test.YtfbajlcljfjbkaaGreatUniat
import Derived.Test.YtfbajlcljfjbkaaGreatUniau
import Derived.Test.YtfbajlcljfjbkaaGreatUniav
set_option linter.unusedVariables false
set_option linter.unusedSimpArgs false
set_option maxRecDepth 100000
set_option maxHeartbeats 16000000
namespace Go.Proofs.YtfbajlcljfjbkaaGreat
open Kap Abv Lax Go.ChangeShapes Go.WideShapes Go.ChangeAt Go.RowKit Mem Tre Ref3 Law3 Fix3 Cfg Crd CrdB CrdC Rr4 Bkp Bks Bkf Bkg Bcl Dlk Stk Apt Bko Bku Bka Bkc Bkq Res Mdp Mdz Mds Mdn Mdo Mdk Mdr Lat
namespace Mdj
open Rul1 hiding below_step
def EnK(al:Nat)(e:En):Prop:=0≤e.o.a∧e.o.a<(al:Int)∧1≤e.o.p∧1≤e.lf∧e.o.p*e.lf≤9223372036854775807
def Vo(q:Mq):Prop:= ∀k,k<q.xs.length→ ∀e∈(gX q.xs k).b.op,EnK q.al e
def relP(p:Pm)(a x:Int):Pm:={p with cu:=Cpl.relU p.cl p.cu (gI p.ac a.toNat) x}
def filF(p:Pm)(i y:Int):Pm×(Int×Int×List (Int×Int)):=
 if (fillF (gB p.bs (shN p i)) i y).2≠0 then (p,((fillF (gB p.bs (shN p i)) i y).2,0,[]))
 else (relP {p with bs:=p.bs.set (shN p i) (fillF (gB p.bs (shN p i)) i y).1} (findE (gB p.bs (shN p i)).op i).o.a ((findE (gB p.bs (shN p i)).op i).o.p*y),(0,0,[]))
variable {b:Bk} {c i y:Int} {s:Nat} {p:Pm}
theorem fil_no(hs:shN p i=s)(hb:gB p.bs s=b)(hc:(fillF b i y).2=c)(h:c≠0):filF p i y=(p,(c,0,[])):=by
 unfold filF;rw[hs,hb,hc,if_pos h]
theorem fil_yes(hs:shN p i=s)(hb:gB p.bs s=b)(h:(fillF b i y).2=0):filF p i y=(relP {p with bs:=p.bs.set s (fillF b i y).1} (findE b.op i).o.a ((findE b.op i).o.p*y),(0,0,[])):=by
 unfold filF;rw[hs,hb,if_neg (by rw[h];decide)]
def akF(p:Pm)(i:Int):Pm×(Int×Int×List (Int×Int)):=
 if (ackF (gB p.bs (shN p i)) i).2≠0 then (p,((ackF (gB p.bs (shN p i)) i).2,0,[]))
 else (relP {p with bs:=p.bs.set (shN p i) (ackF (gB p.bs (shN p i)) i).1} (findE (gB p.bs (shN p i)).op i).o.a ((findE (gB p.bs (shN p i)).op i).o.p*(findE (gB p.bs (shN p i)).op i).lf),(0,0,[]))
theorem ak_no(hs:shN p i=s)(hb:gB p.bs s=b)(hc:(ackF b i).2=c)(h:c≠0):akF p i=(p,(c,0,[])):=by
 unfold akF;rw[hs,hb,hc,if_pos h]
theorem ak_yes(hs:shN p i=s)(hb:gB p.bs s=b)(h:(ackF b i).2=0):akF p i=(relP {p with bs:=p.bs.set s (ackF b i).1} (findE b.op i).o.a ((findE b.op i).o.p*(findE b.op i).lf),(0,0,[])):=by
 unfold akF;rw[hs,hb,if_neg (by rw[h];decide)]
theorem fill_ok(h:(fillF b i y).2=0):posE b.op i<b.op.length∧1≤y∧y≤(findE b.op i).lf:=by
 unfold fillF at h;split at h
 ·simp at h
 ·rename_i h1
  split at h
  ·rename_i h2
   split at h
   ·simp at h
   ·rename_i h3
    have e:findE b.op i=gE b.op (posE b.op i):=by unfold findE;rw[if_pos h2]
    exact⟨h2,by omega,by rw[e];omega⟩
  ·simp at h
theorem ack_ok(h:(ackF b i).2=0):posE b.op i<b.op.length:=by
 unfold ackF at h;split at h
 ·rename_i h2;exact h2
 ·simp at h
theorem find_mem{l:List En}(h:posE l i<l.length):findE l i∈l:=by
 unfold findE;rw[if_pos h];exact gE_mem h
theorem mul_fits{p l:Int}(hp:1≤p)(h1:1≤y)(h2:y≤l)(h3:p*l≤9223372036854775807): -9223372036854775808≤p*y∧p*y≤9223372036854775807:=by
 have a1:p*y≤p*l:=Int.mul_le_mul_of_nonneg_left h2 (by omega);have a2:0≤p*y:=Int.mul_nonneg (by omega) (by omega);omega
theorem blk_kp{w w':World}{g gb z:Nat}{te:TypeId}{cs:Array Value}(h:Blk w z te cs)(k:Kp w w' g (some ⟨gb,0,none⟩))(h1:z≠g)(h2:z≠gb):Blk w' z te cs:=
 (k.block z h.lt h1 (fun b hb=>by have e:=Option.some.inj hb;rw[←e];exact h2)).trans h
theorem mfill_any(base g m:Nat)(q:Mq)(i y:Int)(w:World)(h:Hid (Mm base w g q))(hv:Hid (Vq m q))(hm:m≤900)(hi0:0≤i)(hi1:i≤9223372036854775807)(hyy:y≤9223372036854775807)(hE:Hid (Vo q)):
  Calls Tryz.prog 41 #[.pointer (some ⟨g,0,none⟩),.int .i64 i,.int .i64 y] w (MadeDo base g q (filF (plO q) i y).1 (filF (plO q) i y).2.1 (filF (plO q) i y).2.2.1 (filF (plO q) i y).2.2.2 w):=by
 obtain⟨sh,wi,ra,ta,A,B,C,nl,al,sl,c,d,f,nd,ac,sy,Ab,nb,cb,xs,An,Au,n1,n2,d1,d2,cl,cu,ep,off⟩:=q;obtain⟨v1,v2,va1,v3,v4,v5,v6,v7,v8,v9,v10⟩:=hv.out;obtain⟨l1,l2,l3,l4,l5,l6⟩:=(⟨h.out.l1,h.out.l2,h.out.l3,h.out.l4,h.out.l5,h.out.l6⟩:nl=nd.length∧al=ac.length∧sl=sy.length∧nb=xs.length∧n1=cl.length∧n2=cu.length);have L1:=κ l1;have L2:=κ l2;have L3:=κ l3;have L4:=κ l4;have L5:=κ l5;have L6:=κ l6;have V4:=κ v4;have V5:=κ v5;have V7:=κ v7;have V9:=κ v9;have V10:=κ v10;simp only at v1 v2 va1 v3 v6 v8;obtain⟨gb,hgb⟩:=own_at h.out.row (by show 0<nb;simp only at v7;omega);simp only at hgb;subst hgb;have hnb:nb≤1000∧1≤nb:=by simp only at v7;omega
 clear l1 l2 l3 l4 l5 l6 v4 v5 v7 v9 v10;have U0:=κ (β w (.cells (vI 0 0) 56));have Z0:=κ (Blk.fresh w 56 (vI 0 0));have M0:=κ (Mm_below h.out U0.out);have MZ:=κ (Mz_of h.out τ)
 go_enter Tryz.func41,Tryz.ntmps41
 go_upto_region 1 with fail
 generalize hgZ:w.heap.size=gZ at Z0 MZ ⊢;have HGZ:=κ hgZ;have HGZ':Hid (w.heap.size≤gZ):=by show _≤_;omega
 clear hgZ;generalize (w.alloc (.cells (vI 0 0) 56))=w0 at Z0 U0 M0 ⊢;have K0:Hid (Blk w0 g 97 (vQ sh wi ra ta A nl c B al d C sl f (some (α gb 0)) nb cb An n1 d1 Au n2 d2 ep off)):=M0.out.blk;obtain⟨k0,k1,k2,k3,k4,k5,k6,k7,k8,k9,k10,k11,f0,f1,f2,f3,f4,f5,f6,f7,f8,f9,f10,f11⟩:=q12_of K0.out;have HSO:=shardOf_any base g ⟨sh,wi,ra,ta,A,B,C,nl,al,sl,c,d,f,nd,ac,sy,some (α gb 0),nb,cb,xs,An,Au,n1,n2,d1,d2,cl,cu,ep,off⟩ i w0 M0 ⟨by omega,hi1⟩ (by show 1≤nb∧nb≤1000;omega);obtain⟨sN,hsN,hsNb⟩:=tmod_at i nb hi0 hnb.2;simp only at HSO;rw[hsN]at HSO;have HSN:Hid (shN (plO ⟨sh,wi,ra,ta,A,B,C,nl,al,sl,c,d,f,nd,ac,sy,some (α gb 0),nb,cb,xs,An,Au,n1,n2,d1,d2,cl,cu,ep,off⟩) i=sN):=shN_of (n:=nb) (by show nb=(xs.map Bx.b).length;rw[List.length_map];exact L4.out) hsN;clear hsN;have hsx:Hid (sN<xs.length):=by show _<_;rw[←L4.out];exact hsNb
 have RM2:=own_room M0.out.row;have c0:=RM2.2.2.2.2.2 (sN*4) _ (by have:=bxs_get xs sN 0 hsx.out (by decide);exact this);have c1:=RM2.2.2.2.2.2 (sN*4+1) _ (by have:=bxs_get xs sN 1 hsx.out (by decide);exact this);have c2:=RM2.2.2.2.2.2 (sN*4+2) _ (by have:=bxs_get xs sN 2 hsx.out (by decide);exact this);have c3:=RM2.2.2.2.2.2 (sN*4+3) _ (by have:=bxs_get xs sN 3 hsx.out (by decide);exact this);clear RM2;have BM0:=κ (M0.out.bm sN hsx.out);have VB:=κ (V9.out sN hsx.out)
 have HGB:Hid (gB (plO ⟨sh,wi,ra,ta,A,B,C,nl,al,sl,c,d,f,nd,ac,sy,some (α gb 0),nb,cb,xs,An,Au,n1,n2,d1,d2,cl,cu,ep,off⟩).bs sN=(gX xs sN).b):=by
  show(xs.map Bx.b).getD sN bk0=_;have h1:=hsx.out;simp[gX,h1]
 obtain⟨X,hX⟩:=ν (gX xs sN);rw[←hX]at HGB;simp only at BM0 VB;rw[←hX]at c0 c1 c2 c3 BM0 VB;have HX:=κ hX;clear hX;obtain⟨XA,XC,xc,xd,xrl,xb⟩:=X;obtain⟨bsh,hbsh⟩:=ν xb.sh;obtain⟨bca,hbca⟩:=ν xb.ca;obtain⟨nr2,hnr2⟩:=ν xb.rows.length;obtain⟨no2,hno2⟩:=ν xb.op.length;simp only[bxV,List.getElem?_cons_zero,List.getElem?_cons_succ]at c0 c1 c2 c3;have HSHB:Hid (bsh=xb.sh∧bca=xb.ca):=⟨hbsh,hbca⟩;have HNR2:=κ hnr2;have HNO2:=κ hno2;simp only at VB BM0 HGB;have FEW:=κ (VB.out.1.few (by omega));rw[←hbsh]at c0;rw[←hbca]at c1;rw[←hnr2]at c2;rw[←hno2]at c3;clear hbsh hbca hnr2 hno2;have tsn:decide ((sN:Int)<(nb:Int))=true:=by simp;omega
 have EK:Hid (∀e∈xb.op,EnK al e):=by
  have h1:=hE.out sN hsx.out;simp only at h1;rw[←HX.out]at h1;exact h1
 have FXX:=find_any bsh bca XA XC nr2 no2 xc xd xb.op i w0 HNO2 (κ BM0.out.o) (by have:=FEW.out.ol;have:=HNO2.out;omega);obtain⟨E,hEE⟩:=ν (findE xb.op i);obtain⟨fbB,hfb⟩:=ν (findB xb.op i);rw[←hEE,←hfb]at FXX;have HEE:=κ hEE;clear hEE hfb;obtain⟨eid,⟨ea,es,ex,eP,eQ,eN,eT⟩,eL,eS,eE⟩:=E;simp only[enA]at FXX
 go_upto_region 2 with(refine HSO.mono ?_;rintro e w1 ⟨rfl,hw1⟩;rw[hw1];clear hw1 w1)
 go_wp2_with fail
 refine FXX.mono ?_;rintro e w1 ⟨rfl,hb1⟩;have U3:=β w1 (.cells (vE eid ea es ex eP eQ eN eT eL eS eE) 157);have V3:=κ (Blk.fresh w1 157 (vE eid ea es ex eP eQ eN eT eL eS eE));have HBE:=κ (CrdB.below_step hb1 U3);have HVL:=κ hb1.size;clear hb1 U3 FXX HSO
 go_upto_region 3 with fail
 clear k0 k1 k2 k3 k4 k5 k6 k7 k8 k9 k10 k11 f0 f1 f2 f3 f4 f5 f6 f7 f8 f9 f10 f11 c0 c1 c2 c3 K0;obtain⟨gE,hgE⟩:=ν w1.heap.size;have E3:=κ (ζ hgE V3.out);have HgE:Hid (w0.heap.size≤gE):=by rw[hgE];exact HVL.out
 simp only[←hgE];clear hgE V3 HVL;generalize w1.alloc (.cells (vE eid ea es ex eP eQ eN eT eL eS eE) 157)=wE at HBE E3 ⊢;have ME:=κ (Mm_below M0.out HBE.out);have KE:Hid (Blk wE g 97 (vQ sh wi ra ta A nl c B al d C sl f (some (α gb 0)) nb cb An n1 d1 Au n2 d2 ep off)):=ME.out.blk;obtain⟨k0,k1,k2,k3,k4,k5,k6,k7,k8,k9,k10,k11,f0,f1,f2,f3,f4,f5,f6,f7,f8,f9,f10,f11⟩:=q12_of KE.out;have RMdd:=own_room ME.out.row;have dd0:=RMdd.2.2.2.2.2 (sN*4) _ (by have:=bxs_get xs sN 0 hsx.out (by decide);rw[←HX.out]at this;exact this);have dd1:=RMdd.2.2.2.2.2 (sN*4+1) _ (by have:=bxs_get xs sN 1 hsx.out (by decide);rw[←HX.out]at this;exact this);have dd2:=RMdd.2.2.2.2.2 (sN*4+2) _ (by have:=bxs_get xs sN 2 hsx.out (by decide);rw[←HX.out]at this;exact this);have dd3:=RMdd.2.2.2.2.2 (sN*4+3) _ (by have:=bxs_get xs sN 3 hsx.out (by decide);rw[←HX.out]at this;exact this);simp only[bxV,List.getElem?_cons_zero,List.getElem?_cons_succ]at dd0 dd1 dd2 dd3;rw[←HSHB.out.1]at dd0;rw[←HSHB.out.2]at dd1;rw[←HNR2.out]at dd2;rw[←HNO2.out]at dd3;clear RMdd;have CX:=fill_any bsh bca XA XC nr2 no2 xc xd xrl xb i y wE HSHB HNR2 HNO2 (κ (BM0.out.below HBE.out)) FEW (κ VB.out.1.lf) hyy;obtain⟨NB,hNB⟩:=ν ((fillF xb i y).1);obtain⟨cc,hcc⟩:=ν ((fillF xb i y).2);obtain⟨nsh,hnsh⟩:=ν NB.sh;obtain⟨nca,hnca⟩:=ν NB.ca;obtain⟨nr7,hnr7⟩:=ν NB.rows.length;obtain⟨no7,hno7⟩:=ν NB.op.length;unfold MadeB2 at CX;rw[←hNB,←hcc]at CX
 have hbk: ∀A7 C7 c7 d7,bkA A7 C7 c7 d7 NB= .agg (vB nsh nca A7 nr7 c7 C7 no7 d7):=by
  intro A7 C7 c7 d7;unfold bkA;rw[hnsh,hnca,hnr7,hno7]
 simp only[hbk]at CX;have HNB:=κ hNB;have HCC:=κ hcc;have HN7:Hid (nsh=NB.sh∧nca=NB.ca∧nr7=NB.rows.length∧no7=NB.op.length):=⟨hnsh,hnca,hnr7,hno7⟩;clear hNB hcc hnsh hnca hnr7 hno7 hbk
 go_wp2_with fail
 refine CX.mono ?_;rintro e w2 ⟨A7,C7,c7,d7,rl7,rfl,hm7,hf7,hb7⟩;have N2:=κ hm7;have F7:=κ hf7;have U3:=β w2 (.cells (vB nsh nca A7 nr7 c7 C7 no7 d7) 75);have V3:=κ (Blk.fresh w2 75 (vB nsh nca A7 nr7 c7 C7 no7 d7));have HBE2:=κ (CrdB.below_step hb7 U3);have HB7:=κ (CrdB.below_step HBE.out HBE2.out);have N7:=κ (hm7.below U3);have E7:=κ (Blk.below' E3.out HBE2.out);have HVL:=κ hb7.size;clear hm7 hf7 hb7 U3 CX
 go_upto_region 4 with fail
 clear k0 k1 k2 k3 k4 k5 k6 k7 k8 k9 k10 k11 f0 f1 f2 f3 f4 f5 f6 f7 f8 f9 f10 f11 dd0 dd1 dd2 dd3 KE N2 HBE2 E3;obtain⟨gV,hgV⟩:=ν w2.heap.size;have V7:=κ (ζ hgV V3.out);have HVL:Hid (wE.heap.size≤gV):=by rw[hgV];exact HVL.out
 simp only[←hgV];clear hgV V3;generalize w2.alloc (.cells (vB nsh nca A7 nr7 c7 C7 no7 d7) 75)=w3 at HB7 N7 V7 E7 ⊢;by_cases hcc0:cc=0
 case neg=>
  have t1:(cc != 0)=true:=by simp[hcc0]
  go_upto_region 5 with fail
  have HP0:=κ (fil_no HSN.out HGB.out HCC.out.symm hcc0)
  go_wp2_with fail
  refine(refused_any cc _).mono ?_;rintro e wR ⟨rfl,hbR⟩;have HBR:=κ (CrdB.below_step HB7.out hbR);have MR:=κ (Mm_below M0.out HBR.out);have ZR:=κ (Blk.below' Z0.out HBR.out);have UR:Hid (Kp w wR g (some (α gb 0))):=Kp_of_below (CrdB.below_step U0.out HBR.out);clear hbR;obtain⟨z0,z1,z2,z3⟩:=q2b ZR.out;have zx:=χ ((blk_st ZR.out 0 (ι cc)).cell 1);have F3:Blk (st2 wR gZ (ι cc) (ι 0)) gZ 56 (vI cc 0):=st2_blk ZR.out
  have hfin:MadeDo base g ⟨sh,wi,ra,ta,A,B,C,nl,al,sl,c,d,f,nd,ac,sy,some (α gb 0),nb,cb,xs,An,Au,n1,n2,d1,d2,cl,cu,ep,off⟩ (plO ⟨sh,wi,ra,ta,A,B,C,nl,al,sl,c,d,f,nd,ac,sy,some (α gb 0),nb,cb,xs,An,Au,n1,n2,d1,d2,cl,cu,ep,off⟩) cc 0 [] w (.returned (.tuple #[.agg (vI cc 0),.slice none 0 0])) (st2 wR gZ (ι cc) (ι 0)):=by
   unfold st2;refine madeDo_no (q:=⟨sh,wi,ra,ta,A,B,C,nl,al,sl,c,d,f,nd,ac,sy,some (α gb 0),nb,cb,xs,An,Au,n1,n2,d1,d2,cl,cu,ep,off⟩) (Mm_setz (Mm_setz MR.out MZ.out ZR.out (by decide) 0 _) MZ.out (blk_st ZR.out 0 _) (by decide) 1 _) rfl rfl ?_ (fun z _ h=>Mz_same h);exact Kp_past (Kp_past UR.out HGZ'.out 0 _) HGZ'.out 1 _
  have HF:=κ hfin;clear hfin
  go_wp2_with fail
  obtain⟨e0,e1,_,_⟩:=q2b F3;clear F3;unfold st2 at e0 e1 HF;exact bodyPost_ret (v:= .tuple #[.agg #[ι cc,ι 0],.slice none 0 0]) (by simp[results,Tryz.results41,go_sem,e0,e1]) rfl (by first|exact HF.out|(rw[HP0.out];exact HF.out))
 case pos=>
  have t1:(cc != 0)=false:=by simp[hcc0]
  have HC0:(fillF xb i y).2=0:=by rw[←HCC.out];exact hcc0
  have HCY:=κ (fil_yes HSN.out HGB.out HC0);have HFB:=κ HBE.out.size;obtain⟨hpp,hy1,hy2⟩:=fill_ok HC0;rw[←HEE.out]at hy2;simp only at hy2;have hek:=EK.out _ (find_mem hpp);rw[←HEE.out]at hek;obtain⟨ea0,ea1,eP1,eL1,eW⟩:=hek;simp only at ea0 ea1 eP1 eL1 eW;obtain⟨aN,haN⟩: ∃k:Nat,ea=k:=⟨ea.toNat,by omega⟩;subst haN;have haN':aN<al:=by omega
  have hx:=mul_fits (p:=eP) (y:=y) (l:=eL) eP1 hy1 hy2 eW;have HXX:=κ hx;clear hcc0 HC0 hy1 hy2 eW eP1 eL1 hx;have hEb:Hid (gE≠gb):=by show _≠_;have h1:=(Mm_lt M0.out).2 (α gb 0) rfl;have h2:=ξ h1;have:=HgE.out;omega
  have hEg:Hid (gE≠g):=by show _≠_;have h1:=(Mm_lt M0.out).1;have:=HgE.out;omega
  go_upto_region 6 with fail
  have HBd:=κ (Below.drew HB7.out);have Md:=κ (Mm_below M0.out HBd.out);have V7d:=κ (ε V7.out);have LT0:=κ (Mm_lt M0.out);have hgb0:=κ (ξ (LT0.out.2 (α gb 0) rfl));have h0f:=κ HFB.out;have RMhh:=own_room Md.out.row;have hh0:=RMhh.2.2.2.2.2 (sN*4) _ (by have:=bxs_get xs sN 0 hsx.out (by decide);rw[←HX.out]at this;exact this);have hh1:=RMhh.2.2.2.2.2 (sN*4+1) _ (by have:=bxs_get xs sN 1 hsx.out (by decide);rw[←HX.out]at this;exact this);have hh2:=RMhh.2.2.2.2.2 (sN*4+2) _ (by have:=bxs_get xs sN 2 hsx.out (by decide);rw[←HX.out]at this;exact this);have hh3:=RMhh.2.2.2.2.2 (sN*4+3) _ (by have:=bxs_get xs sN 3 hsx.out (by decide);rw[←HX.out]at this;exact this);simp only[bxV,List.getElem?_cons_zero,List.getElem?_cons_succ]at hh0 hh1 hh2 hh3;rw[←HSHB.out.1]at hh0;rw[←HSHB.out.2]at hh1;rw[←HNR2.out]at hh2;rw[←HNO2.out]at hh3;clear RMhh;have RMf:=own_room Md.out.row;have hcb:=ξ RMf.2.2.1;have hf0:=(RMf.2.2.2.2.1 (sN*4) (show sN*4<cb*4 by omega)).2;have hf1:=(RMf.2.2.2.2.1 (sN*4+1) (show sN*4+1<cb*4 by omega)).2;have hf2:=(RMf.2.2.2.2.1 (sN*4+2) (show sN*4+2<cb*4 by omega)).2;have hf3:=(RMf.2.2.2.2.1 (sN*4+3) (show sN*4+3<cb*4 by omega)).2;clear RMf hcb;have hd1:=ω (α gb (sN*4)) (ι nsh) hh1;have he1:=φ (α gb (sN*4)) (ι nsh) hf1;have hd2:=ω (α gb (sN*4+1)) (ι nca) (ω (α gb (sN*4)) (ι nsh) hh2);have he2:=φ (α gb (sN*4+1)) (ι nca) (φ (α gb (sN*4)) (ι nsh) hf2);have hd3:=ω (α gb (sN*4+2)) (.slice A7 nr7 c7) (ω (α gb (sN*4+1)) (ι nca) (ω (α gb (sN*4)) (ι nsh) hh3));have he3:=φ (α gb (sN*4+2)) (.slice A7 nr7 c7) (φ (α gb (sN*4+1)) (ι nca) (φ (α gb (sN*4)) (ι nsh) hf3));let T254:World→Prop:=fun w'=>w'.cell? (α g 7)=some (.slice (some (α gb 0)) nb cb)∧w'.cell? (α gV 0)=some (ι nsh)∧w'.cell? (α gV 1)=some (ι nca)∧w'.cell? (α gV 2)=some (.slice A7 nr7 c7)∧w'.cell? (α gV 3)=some (.slice C7 no7 d7)
  have HT:Hid (T254 (w3.drew)):=⟨Md.out.blk.cell 7,V7d.out.cell 0,V7d.out.cell 1,V7d.out.cell 2,V7d.out.cell 3⟩
  have M9:Hid (Mm base ((((w3.drew.setCell (α gb (sN*4)) (ι nsh)).setCell (α gb (sN*4+1)) (ι nca)).setCell (α gb (sN*4+2)) (.slice A7 nr7 c7)).setCell (α gb (sN*4+3)) (.slice C7 no7 d7)) g ⟨sh,wi,ra,ta,A,B,C,nl,al,sl,c,d,f,nd,ac,sy,some (α gb 0),nb,cb,xs.set sN ⟨A7,C7,c7,d7,rl7,NB⟩,An,Au,n1,n2,d1,d2,cl,cu,ep,off⟩):=by
   have h9:=Mm_book Md.out rfl (i:=sN) hsx.out (x:=⟨A7,C7,c7,d7,rl7,NB⟩) (show Bm w3.drew A7 C7 rl7 NB from⟨N7.out.r,N7.out.e,N7.out.n,N7.out.o⟩) (FarX_new (base:=wE.heap.size) (by have:=LT0.out.1;have:=h0f.out;omega) (fun b hb=>by have:=LT0.out.2 b hb;have:=h0f.out;omega) F7.out);simp only[←HN7.out.1,←HN7.out.2.1,←HN7.out.2.2.1,←HN7.out.2.2.2]at h9;exact h9
  have hZb:Hid (gZ≠gb):=fun e=>blk_own_ne Z0.out M0.out.row (by decide) (by rw[e];rfl)
  have Z9:Hid (Blk ((((w3.drew.setCell (α gb (sN*4)) (ι nsh)).setCell (α gb (sN*4+1)) (ι nca)).setCell (α gb (sN*4+2)) (.slice A7 nr7 c7)).setCell (α gb (sN*4+3)) (.slice C7 no7 d7)) gZ 56 (vI 0 0)):=(far_st (far_st (far_st (far_st (show Blk w3.drew gZ 56 (vI 0 0) from Blk.below' Z0.out HBd.out) hZb.out _) hZb.out _) hZb.out _) hZb.out _);have KP9:Hid (Kp w ((((w3.drew.setCell (α gb (sN*4)) (ι nsh)).setCell (α gb (sN*4+1)) (ι nca)).setCell (α gb (sN*4+2)) (.slice A7 nr7 c7)).setCell (α gb (sN*4+3)) (.slice C7 no7 d7)) g (some (α gb 0))):=Kp_setb (Kp_setb (Kp_setb (Kp_setb (Kp_of_below (CrdB.below_step U0.out HBd.out)) _ _) _ _) _ _) _ _
  have HMZ9:Hid (∀z,z<w.heap.size→Mz z g ⟨sh,wi,ra,ta,A,B,C,nl,al,sl,c,d,f,nd,ac,sy,some (α gb 0),nb,cb,xs,An,Au,n1,n2,d1,d2,cl,cu,ep,off⟩→Mz z g ⟨sh,wi,ra,ta,A,B,C,nl,al,sl,c,d,f,nd,ac,sy,some (α gb 0),nb,cb,xs.set sN ⟨A7,C7,c7,d7,rl7,NB⟩,An,Au,n1,n2,d1,d2,cl,cu,ep,off⟩):=by
   intro z hz hmz;have hw0:=U0.out.size;exact Mz_book hmz (i:=sN) hsx.out (x:=⟨A7,C7,c7,d7,rl7,NB⟩) (FzB_new (base:=wE.heap.size) (by have:=h0f.out;omega) F7.out)
  have MZ9:=κ (ξ (Mz_book MZ.out (i:=sN) hsx.out (x:=⟨A7,C7,c7,d7,rl7,NB⟩) (FzB_new (base:=wE.heap.size) (by have:=Z0.out.lt;have:=h0f.out;omega) F7.out)));have E79:Hid (Blk ((((w3.drew.setCell (α gb (sN*4)) (ι nsh)).setCell (α gb (sN*4+1)) (ι nca)).setCell (α gb (sN*4+2)) (.slice A7 nr7 c7)).setCell (α gb (sN*4+3)) (.slice C7 no7 d7)) gE 157 (vE eid (aN:Int) es ex eP eQ eN eT eL eS eE)):=(far_st (far_st (far_st (far_st (show Blk w3.drew gE 157 (vE eid (aN:Int) es ex eP eQ eN eT eL eS eE) from E7.out) hEb.out _) hEb.out _) hEb.out _) hEb.out _)
  go_upto_region 6 with fail
  refine Ω T254 [7] ?_;generalize w3.drew=w8 at HBd Md V7d hh0 hh1 hh2 hh3 hf0 hf1 hf2 hf3 hd1 hd2 hd3 he1 he2 he3 HT M9 Z9 KP9 E7 E79 ⊢;refine jA 0 HT.out ?_;refine jA 1 HT.out ?_;refine jA 2 HT.out ?_;refine jB 3 HT.out ?_;refine jA 4 HT.out ?_;refine jB 5 HT.out ?_;refine jA 6 HT.out ?_;refine jV 7 fun K' hK=>?_
  go_simp;refine hK.out _ _ ?_;clear hK K';refine jP ?_;refine Δ ?_;clear hh0 hh1 hh2 hh3 hf0 hf1 hf2 hf3 hd1 hd2 hd3 he1 he2 he3 HT V7d Md HBd
  go_upto_region 7 with fail
  generalize ((((w8.setCell (α gb (sN*4)) (ι nsh)).setCell (α gb (sN*4+1)) (ι nca)).setCell (α gb (sN*4+2)) (.slice A7 nr7 c7)).setCell (α gb (sN*4+3)) (.slice C7 no7 d7))=w9 at M9 Z9 KP9 E79 ⊢;have HAC:=κ L2.out.symm;have RL:=mrelease_any base g aN ⟨sh,wi,ra,ta,A,B,C,nl,al,sl,c,d,f,nd,ac,sy,some (α gb 0),nb,cb,xs.set sN ⟨A7,C7,c7,d7,rl7,NB⟩,An,Au,n1,n2,d1,d2,cl,cu,ep,off⟩ es eP eQ eN eT y ex w9 M9 V10.out V5.out haN' (by show al≤100;exact v2) HXX.out;unfold MadeRl at RL;obtain⟨UU,hUU⟩:=ν (Cpl.relU cl cu (gI ac aN) (eP*y));simp only[←hUU]at RL;have HUU:=κ hUU;clear hUU;obtain⟨j0,j1,j2,j3,j4,j5,j6,j7,j8,j9,j10⟩:=q11_of E79.out
  go_wp2_with fail
  refine RL.mono ?_;rintro e w10 ⟨rfl,A5,A6,d5,d6,nU,hm10,fa5,fb5,hk10⟩;have M10:=κ hm10;have hZ9:=Z9.out.lt;have Z10:=κ (blk_kp Z9.out hk10 MZ9.out.ne hZb.out);have KP10:=κ (Kp_trans KP9.out hk10);have MZ10:Hid (Mz gZ g ⟨sh,wi,ra,ta,A,B,C,nl,al,sl,c,d,f,nd,ac,sy,some (α gb 0),nb,cb,xs.set sN ⟨A7,C7,c7,d7,rl7,NB⟩,A5,A6,n1,nU,d5,d6,cl,UU,ep,off⟩):=⟨MZ9.out.ne,MZ9.out.z1,MZ9.out.z2,MZ9.out.z3,FarE_new hZ9 fa5,FarE_new hZ9 fb5,MZ9.out.zx⟩
  have HEQ:Hid (filF (plO ⟨sh,wi,ra,ta,A,B,C,nl,al,sl,c,d,f,nd,ac,sy,some (α gb 0),nb,cb,xs,An,Au,n1,n2,d1,d2,cl,cu,ep,off⟩) i y=(plO ⟨sh,wi,ra,ta,A,B,C,nl,al,sl,c,d,f,nd,ac,sy,some (α gb 0),nb,cb,xs.set sN ⟨A7,C7,c7,d7,rl7,NB⟩,A5,A6,n1,nU,d5,d6,cl,UU,ep,off⟩,(0,0,[]))):=by
   show _=_;rw[HCY.out];unfold plO relP;simp only[List.map_set,←HNB.out,←HEE.out,Int.toNat_natCast,←HUU.out]
  have HMZ:Hid (∀z,z<w.heap.size→Mz z g ⟨sh,wi,ra,ta,A,B,C,nl,al,sl,c,d,f,nd,ac,sy,some (α gb 0),nb,cb,xs,An,Au,n1,n2,d1,d2,cl,cu,ep,off⟩→Mz z g ⟨sh,wi,ra,ta,A,B,C,nl,al,sl,c,d,f,nd,ac,sy,some (α gb 0),nb,cb,xs.set sN ⟨A7,C7,c7,d7,rl7,NB⟩,A5,A6,n1,nU,d5,d6,cl,UU,ep,off⟩):=by
   intro z hz hmz;have h9:=HMZ9.out z hz hmz;have hz9:=Nat.lt_of_lt_of_le hz KP9.out.size;exact⟨h9.ne,h9.z1,h9.z2,h9.z3,FarE_new hz9 fa5,FarE_new hz9 fb5,h9.zx⟩
  clear hm10 fa5 fb5 hk10 hZ9 j0 j1 j2 j3 j4 j5 j6 j7 j8 j9 j10 E79 M9 Z9 KP9 RL;obtain⟨z0,z1,z2,z3⟩:=q2b Z10.out;have zx:=χ ((blk_st Z10.out 0 (ι 0)).cell 1);have F3:Blk (st2 w10 gZ (ι 0) (ι 0)) gZ 56 (vI 0 0):=st2_blk Z10.out
  have hfin:MadeDo base g ⟨sh,wi,ra,ta,A,B,C,nl,al,sl,c,d,f,nd,ac,sy,some (α gb 0),nb,cb,xs,An,Au,n1,n2,d1,d2,cl,cu,ep,off⟩ (plO ⟨sh,wi,ra,ta,A,B,C,nl,al,sl,c,d,f,nd,ac,sy,some (α gb 0),nb,cb,xs.set sN ⟨A7,C7,c7,d7,rl7,NB⟩,A5,A6,n1,nU,d5,d6,cl,UU,ep,off⟩) 0 0 [] w (.returned (.tuple #[.agg (vI 0 0),.slice none 0 0])) (st2 w10 gZ (ι 0) (ι 0)):=by
   unfold st2;refine madeDo_no (q:=⟨sh,wi,ra,ta,A,B,C,nl,al,sl,c,d,f,nd,ac,sy,some (α gb 0),nb,cb,xs.set sN ⟨A7,C7,c7,d7,rl7,NB⟩,A5,A6,n1,nU,d5,d6,cl,UU,ep,off⟩) (Mm_setz (Mm_setz M10.out MZ10.out Z10.out (by decide) 0 _) MZ10.out (blk_st Z10.out 0 _) (by decide) 1 _) rfl rfl ?_ HMZ.out;exact Kp_past (Kp_past KP10.out HGZ'.out 0 _) HGZ'.out 1 _
  have HF:=κ hfin;clear hfin
  go_wp2_with fail
  obtain⟨e0,e1,_,_⟩:=q2b F3;clear F3;unfold st2 at e0 e1 HF;exact bodyPost_ret (v:= .tuple #[.agg #[ι 0,ι 0],.slice none 0 0]) (by simp[results,Tryz.results41,go_sem,e0,e1]) rfl (by first|exact HF.out|(rw[HEQ.out];exact HF.out))
theorem mack_any(base g m:Nat)(q:Mq)(i:Int)(w:World)(h:Hid (Mm base w g q))(hv:Hid (Vq m q))(hm:m≤900)(hi0:0≤i)(hi1:i≤9223372036854775807)(hE:Hid (Vo q)):
  Calls Tryz.prog 42 #[.pointer (some ⟨g,0,none⟩),.int .i64 i] w (MadeDo base g q (akF (plO q) i).1 (akF (plO q) i).2.1 (akF (plO q) i).2.2.1 (akF (plO q) i).2.2.2 w):=by
 obtain⟨sh,wi,ra,ta,A,B,C,nl,al,sl,c,d,f,nd,ac,sy,Ab,nb,cb,xs,An,Au,n1,n2,d1,d2,cl,cu,ep,off⟩:=q;obtain⟨v1,v2,va1,v3,v4,v5,v6,v7,v8,v9,v10⟩:=hv.out;obtain⟨l1,l2,l3,l4,l5,l6⟩:=(⟨h.out.l1,h.out.l2,h.out.l3,h.out.l4,h.out.l5,h.out.l6⟩:nl=nd.length∧al=ac.length∧sl=sy.length∧nb=xs.length∧n1=cl.length∧n2=cu.length);have L1:=κ l1;have L2:=κ l2;have L3:=κ l3;have L4:=κ l4;have L5:=κ l5;have L6:=κ l6;have V4:=κ v4;have V5:=κ v5;have V7:=κ v7;have V9:=κ v9;have V10:=κ v10;simp only at v1 v2 va1 v3 v6 v8;obtain⟨gb,hgb⟩:=own_at h.out.row (by show 0<nb;simp only at v7;omega);simp only at hgb;subst hgb;have hnb:nb≤1000∧1≤nb:=by simp only at v7;omega
 clear l1 l2 l3 l4 l5 l6 v4 v5 v7 v9 v10;have U0:=κ (β w (.cells (vI 0 0) 56));have Z0:=κ (Blk.fresh w 56 (vI 0 0));have M0:=κ (Mm_below h.out U0.out);have MZ:=κ (Mz_of h.out τ)
 go_enter Tryz.func42,Tryz.ntmps42
 go_upto_region 1 with fail
 generalize hgZ:w.heap.size=gZ at Z0 MZ ⊢;have HGZ:=κ hgZ;have HGZ':Hid (w.heap.size≤gZ):=by show _≤_;omega
 clear hgZ;generalize (w.alloc (.cells (vI 0 0) 56))=w0 at Z0 U0 M0 ⊢;have K0:Hid (Blk w0 g 97 (vQ sh wi ra ta A nl c B al d C sl f (some (α gb 0)) nb cb An n1 d1 Au n2 d2 ep off)):=M0.out.blk;obtain⟨k0,k1,k2,k3,k4,k5,k6,k7,k8,k9,k10,k11,f0,f1,f2,f3,f4,f5,f6,f7,f8,f9,f10,f11⟩:=q12_of K0.out;have HSO:=shardOf_any base g ⟨sh,wi,ra,ta,A,B,C,nl,al,sl,c,d,f,nd,ac,sy,some (α gb 0),nb,cb,xs,An,Au,n1,n2,d1,d2,cl,cu,ep,off⟩ i w0 M0 ⟨by omega,hi1⟩ (by show 1≤nb∧nb≤1000;omega);obtain⟨sN,hsN,hsNb⟩:=tmod_at i nb hi0 hnb.2;simp only at HSO;rw[hsN]at HSO;have HSN:Hid (shN (plO ⟨sh,wi,ra,ta,A,B,C,nl,al,sl,c,d,f,nd,ac,sy,some (α gb 0),nb,cb,xs,An,Au,n1,n2,d1,d2,cl,cu,ep,off⟩) i=sN):=shN_of (n:=nb) (by show nb=(xs.map Bx.b).length;rw[List.length_map];exact L4.out) hsN;clear hsN;have hsx:Hid (sN<xs.length):=by show _<_;rw[←L4.out];exact hsNb
 have RM2:=own_room M0.out.row;have c0:=RM2.2.2.2.2.2 (sN*4) _ (by have:=bxs_get xs sN 0 hsx.out (by decide);exact this);have c1:=RM2.2.2.2.2.2 (sN*4+1) _ (by have:=bxs_get xs sN 1 hsx.out (by decide);exact this);have c2:=RM2.2.2.2.2.2 (sN*4+2) _ (by have:=bxs_get xs sN 2 hsx.out (by decide);exact this);have c3:=RM2.2.2.2.2.2 (sN*4+3) _ (by have:=bxs_get xs sN 3 hsx.out (by decide);exact this);clear RM2;have BM0:=κ (M0.out.bm sN hsx.out);have VB:=κ (V9.out sN hsx.out)
 have HGB:Hid (gB (plO ⟨sh,wi,ra,ta,A,B,C,nl,al,sl,c,d,f,nd,ac,sy,some (α gb 0),nb,cb,xs,An,Au,n1,n2,d1,d2,cl,cu,ep,off⟩).bs sN=(gX xs sN).b):=by
  show(xs.map Bx.b).getD sN bk0=_;have h1:=hsx.out;simp[gX,h1]
 obtain⟨X,hX⟩:=ν (gX xs sN);rw[←hX]at HGB;simp only at BM0 VB;rw[←hX]at c0 c1 c2 c3 BM0 VB;have HX:=κ hX;clear hX;obtain⟨XA,XC,xc,xd,xrl,xb⟩:=X;obtain⟨bsh,hbsh⟩:=ν xb.sh;obtain⟨bca,hbca⟩:=ν xb.ca;obtain⟨nr2,hnr2⟩:=ν xb.rows.length;obtain⟨no2,hno2⟩:=ν xb.op.length;simp only[bxV,List.getElem?_cons_zero,List.getElem?_cons_succ]at c0 c1 c2 c3;have HSHB:Hid (bsh=xb.sh∧bca=xb.ca):=⟨hbsh,hbca⟩;have HNR2:=κ hnr2;have HNO2:=κ hno2;simp only at VB BM0 HGB;have FEW:=κ (VB.out.1.few (by omega));rw[←hbsh]at c0;rw[←hbca]at c1;rw[←hnr2]at c2;rw[←hno2]at c3;clear hbsh hbca hnr2 hno2;have tsn:decide ((sN:Int)<(nb:Int))=true:=by simp;omega
 have EK:Hid (∀e∈xb.op,EnK al e):=by
  have h1:=hE.out sN hsx.out;simp only at h1;rw[←HX.out]at h1;exact h1
 have FXX:=find_any bsh bca XA XC nr2 no2 xc xd xb.op i w0 HNO2 (κ BM0.out.o) (by have:=FEW.out.ol;have:=HNO2.out;omega);obtain⟨E,hEE⟩:=ν (findE xb.op i);obtain⟨fbB,hfb⟩:=ν (findB xb.op i);rw[←hEE,←hfb]at FXX;have HEE:=κ hEE;clear hEE hfb;obtain⟨eid,⟨ea,es,ex,eP,eQ,eN,eT⟩,eL,eS,eE⟩:=E;simp only[enA]at FXX
 go_upto_region 2 with(refine HSO.mono ?_;rintro e w1 ⟨rfl,hw1⟩;rw[hw1];clear hw1 w1)
 go_wp2_with fail
 refine FXX.mono ?_;rintro e w1 ⟨rfl,hb1⟩;have U3:=β w1 (.cells (vE eid ea es ex eP eQ eN eT eL eS eE) 157);have V3:=κ (Blk.fresh w1 157 (vE eid ea es ex eP eQ eN eT eL eS eE));have HBE:=κ (CrdB.below_step hb1 U3);have HVL:=κ hb1.size;clear hb1 U3 FXX HSO
 go_upto_region 3 with fail
 clear k0 k1 k2 k3 k4 k5 k6 k7 k8 k9 k10 k11 f0 f1 f2 f3 f4 f5 f6 f7 f8 f9 f10 f11 c0 c1 c2 c3 K0;obtain⟨gE,hgE⟩:=ν w1.heap.size;have E3:=κ (ζ hgE V3.out);have HgE:Hid (w0.heap.size≤gE):=by rw[hgE];exact HVL.out
 simp only[←hgE];clear hgE V3 HVL;generalize w1.alloc (.cells (vE eid ea es ex eP eQ eN eT eL eS eE) 157)=wE at HBE E3 ⊢;have ME:=κ (Mm_below M0.out HBE.out);have KE:Hid (Blk wE g 97 (vQ sh wi ra ta A nl c B al d C sl f (some (α gb 0)) nb cb An n1 d1 Au n2 d2 ep off)):=ME.out.blk;obtain⟨k0,k1,k2,k3,k4,k5,k6,k7,k8,k9,k10,k11,f0,f1,f2,f3,f4,f5,f6,f7,f8,f9,f10,f11⟩:=q12_of KE.out;have RMdd:=own_room ME.out.row;have dd0:=RMdd.2.2.2.2.2 (sN*4) _ (by have:=bxs_get xs sN 0 hsx.out (by decide);rw[←HX.out]at this;exact this);have dd1:=RMdd.2.2.2.2.2 (sN*4+1) _ (by have:=bxs_get xs sN 1 hsx.out (by decide);rw[←HX.out]at this;exact this);have dd2:=RMdd.2.2.2.2.2 (sN*4+2) _ (by have:=bxs_get xs sN 2 hsx.out (by decide);rw[←HX.out]at this;exact this);have dd3:=RMdd.2.2.2.2.2 (sN*4+3) _ (by have:=bxs_get xs sN 3 hsx.out (by decide);rw[←HX.out]at this;exact this);simp only[bxV,List.getElem?_cons_zero,List.getElem?_cons_succ]at dd0 dd1 dd2 dd3;rw[←HSHB.out.1]at dd0;rw[←HSHB.out.2]at dd1;rw[←HNR2.out]at dd2;rw[←HNO2.out]at dd3;clear RMdd;have CX:=ack_any bsh bca XA XC nr2 no2 xc xd xrl xb i wE HSHB HNR2 HNO2 (κ (BM0.out.below HBE.out)) FEW;obtain⟨NB,hNB⟩:=ν ((ackF xb i).1);obtain⟨cc,hcc⟩:=ν ((ackF xb i).2);obtain⟨nsh,hnsh⟩:=ν NB.sh;obtain⟨nca,hnca⟩:=ν NB.ca;obtain⟨nr7,hnr7⟩:=ν NB.rows.length;obtain⟨no7,hno7⟩:=ν NB.op.length;unfold MadeB2 at CX;rw[←hNB,←hcc]at CX
 have hbk: ∀A7 C7 c7 d7,bkA A7 C7 c7 d7 NB= .agg (vB nsh nca A7 nr7 c7 C7 no7 d7):=by
  intro A7 C7 c7 d7;unfold bkA;rw[hnsh,hnca,hnr7,hno7]
 simp only[hbk]at CX;have HNB:=κ hNB;have HCC:=κ hcc;have HN7:Hid (nsh=NB.sh∧nca=NB.ca∧nr7=NB.rows.length∧no7=NB.op.length):=⟨hnsh,hnca,hnr7,hno7⟩;clear hNB hcc hnsh hnca hnr7 hno7 hbk
 go_wp2_with fail
 refine CX.mono ?_;rintro e w2 ⟨A7,C7,c7,d7,rl7,rfl,hm7,hf7,hb7⟩;have N2:=κ hm7;have F7:=κ hf7;have U3:=β w2 (.cells (vB nsh nca A7 nr7 c7 C7 no7 d7) 75);have V3:=κ (Blk.fresh w2 75 (vB nsh nca A7 nr7 c7 C7 no7 d7));have HBE2:=κ (CrdB.below_step hb7 U3);have HB7:=κ (CrdB.below_step HBE.out HBE2.out);have N7:=κ (hm7.below U3);have E7:=κ (Blk.below' E3.out HBE2.out);have HVL:=κ hb7.size;clear hm7 hf7 hb7 U3 CX
 go_upto_region 4 with fail
 clear k0 k1 k2 k3 k4 k5 k6 k7 k8 k9 k10 k11 f0 f1 f2 f3 f4 f5 f6 f7 f8 f9 f10 f11 dd0 dd1 dd2 dd3 KE N2 HBE2 E3;obtain⟨gV,hgV⟩:=ν w2.heap.size;have V7:=κ (ζ hgV V3.out);have HVL:Hid (wE.heap.size≤gV):=by rw[hgV];exact HVL.out
 simp only[←hgV];clear hgV V3;generalize w2.alloc (.cells (vB nsh nca A7 nr7 c7 C7 no7 d7) 75)=w3 at HB7 N7 V7 E7 ⊢;by_cases hcc0:cc=0
 case neg=>
  have t1:(cc != 0)=true:=by simp[hcc0]
  go_upto_region 5 with fail
  have HP0:=κ (ak_no HSN.out HGB.out HCC.out.symm hcc0)
  go_wp2_with fail
  refine(refused_any cc _).mono ?_;rintro e wR ⟨rfl,hbR⟩;have HBR:=κ (CrdB.below_step HB7.out hbR);have MR:=κ (Mm_below M0.out HBR.out);have ZR:=κ (Blk.below' Z0.out HBR.out);have UR:Hid (Kp w wR g (some (α gb 0))):=Kp_of_below (CrdB.below_step U0.out HBR.out);clear hbR;obtain⟨z0,z1,z2,z3⟩:=q2b ZR.out;have zx:=χ ((blk_st ZR.out 0 (ι cc)).cell 1);have F3:Blk (st2 wR gZ (ι cc) (ι 0)) gZ 56 (vI cc 0):=st2_blk ZR.out
  have hfin:MadeDo base g ⟨sh,wi,ra,ta,A,B,C,nl,al,sl,c,d,f,nd,ac,sy,some (α gb 0),nb,cb,xs,An,Au,n1,n2,d1,d2,cl,cu,ep,off⟩ (plO ⟨sh,wi,ra,ta,A,B,C,nl,al,sl,c,d,f,nd,ac,sy,some (α gb 0),nb,cb,xs,An,Au,n1,n2,d1,d2,cl,cu,ep,off⟩) cc 0 [] w (.returned (.tuple #[.agg (vI cc 0),.slice none 0 0])) (st2 wR gZ (ι cc) (ι 0)):=by
   unfold st2;refine madeDo_no (q:=⟨sh,wi,ra,ta,A,B,C,nl,al,sl,c,d,f,nd,ac,sy,some (α gb 0),nb,cb,xs,An,Au,n1,n2,d1,d2,cl,cu,ep,off⟩) (Mm_setz (Mm_setz MR.out MZ.out ZR.out (by decide) 0 _) MZ.out (blk_st ZR.out 0 _) (by decide) 1 _) rfl rfl ?_ (fun z _ h=>Mz_same h);exact Kp_past (Kp_past UR.out HGZ'.out 0 _) HGZ'.out 1 _
  have HF:=κ hfin;clear hfin
  go_wp2_with fail
  obtain⟨e0,e1,_,_⟩:=q2b F3;clear F3;unfold st2 at e0 e1 HF;exact bodyPost_ret (v:= .tuple #[.agg #[ι cc,ι 0],.slice none 0 0]) (by simp[results,Tryz.results42,go_sem,e0,e1]) rfl (by first|exact HF.out|(rw[HP0.out];exact HF.out))
 case pos=>
  have t1:(cc != 0)=false:=by simp[hcc0]
  have HC0:(ackF xb i).2=0:=by rw[←HCC.out];exact hcc0
  have HCY:=κ (ak_yes HSN.out HGB.out HC0);have HFB:=κ HBE.out.size;have hpp:=ack_ok HC0;have hek:=EK.out _ (find_mem hpp);have hy1:1≤eL:=by have h1:=hek.2.2.2.1;rw[←HEE.out]at h1;exact h1
  have hy2:eL≤eL:=Int.le_refl _;rw[←HEE.out]at hek;obtain⟨ea0,ea1,eP1,eL1,eW⟩:=hek;simp only at ea0 ea1 eP1 eL1 eW;obtain⟨aN,haN⟩: ∃k:Nat,ea=k:=⟨ea.toNat,by omega⟩;subst haN;have haN':aN<al:=by omega
  have hx:=mul_fits (p:=eP) (y:=eL) (l:=eL) eP1 hy1 hy2 eW;have HXX:=κ hx;clear hcc0 HC0 hy1 hy2 eW eP1 eL1 hx;have hEb:Hid (gE≠gb):=by show _≠_;have h1:=(Mm_lt M0.out).2 (α gb 0) rfl;have h2:=ξ h1;have:=HgE.out;omega
  have hEg:Hid (gE≠g):=by show _≠_;have h1:=(Mm_lt M0.out).1;have:=HgE.out;omega
  go_upto_region 6 with fail
  have HBd:=κ (Below.drew HB7.out);have Md:=κ (Mm_below M0.out HBd.out);have V7d:=κ (ε V7.out);have LT0:=κ (Mm_lt M0.out);have hgb0:=κ (ξ (LT0.out.2 (α gb 0) rfl));have h0f:=κ HFB.out;have RMhh:=own_room Md.out.row;have hh0:=RMhh.2.2.2.2.2 (sN*4) _ (by have:=bxs_get xs sN 0 hsx.out (by decide);rw[←HX.out]at this;exact this);have hh1:=RMhh.2.2.2.2.2 (sN*4+1) _ (by have:=bxs_get xs sN 1 hsx.out (by decide);rw[←HX.out]at this;exact this);have hh2:=RMhh.2.2.2.2.2 (sN*4+2) _ (by have:=bxs_get xs sN 2 hsx.out (by decide);rw[←HX.out]at this;exact this);have hh3:=RMhh.2.2.2.2.2 (sN*4+3) _ (by have:=bxs_get xs sN 3 hsx.out (by decide);rw[←HX.out]at this;exact this);simp only[bxV,List.getElem?_cons_zero,List.getElem?_cons_succ]at hh0 hh1 hh2 hh3;rw[←HSHB.out.1]at hh0;rw[←HSHB.out.2]at hh1;rw[←HNR2.out]at hh2;rw[←HNO2.out]at hh3;clear RMhh;have RMf:=own_room Md.out.row;have hcb:=ξ RMf.2.2.1;have hf0:=(RMf.2.2.2.2.1 (sN*4) (show sN*4<cb*4 by omega)).2;have hf1:=(RMf.2.2.2.2.1 (sN*4+1) (show sN*4+1<cb*4 by omega)).2;have hf2:=(RMf.2.2.2.2.1 (sN*4+2) (show sN*4+2<cb*4 by omega)).2;have hf3:=(RMf.2.2.2.2.1 (sN*4+3) (show sN*4+3<cb*4 by omega)).2;clear RMf hcb;have hd1:=ω (α gb (sN*4)) (ι nsh) hh1;have he1:=φ (α gb (sN*4)) (ι nsh) hf1;have hd2:=ω (α gb (sN*4+1)) (ι nca) (ω (α gb (sN*4)) (ι nsh) hh2);have he2:=φ (α gb (sN*4+1)) (ι nca) (φ (α gb (sN*4)) (ι nsh) hf2);have hd3:=ω (α gb (sN*4+2)) (.slice A7 nr7 c7) (ω (α gb (sN*4+1)) (ι nca) (ω (α gb (sN*4)) (ι nsh) hh3));have he3:=φ (α gb (sN*4+2)) (.slice A7 nr7 c7) (φ (α gb (sN*4+1)) (ι nca) (φ (α gb (sN*4)) (ι nsh) hf3));let T254:World→Prop:=fun w'=>w'.cell? (α g 7)=some (.slice (some (α gb 0)) nb cb)∧w'.cell? (α gV 0)=some (ι nsh)∧w'.cell? (α gV 1)=some (ι nca)∧w'.cell? (α gV 2)=some (.slice A7 nr7 c7)∧w'.cell? (α gV 3)=some (.slice C7 no7 d7)
  have HT:Hid (T254 (w3.drew)):=⟨Md.out.blk.cell 7,V7d.out.cell 0,V7d.out.cell 1,V7d.out.cell 2,V7d.out.cell 3⟩
  have M9:Hid (Mm base ((((w3.drew.setCell (α gb (sN*4)) (ι nsh)).setCell (α gb (sN*4+1)) (ι nca)).setCell (α gb (sN*4+2)) (.slice A7 nr7 c7)).setCell (α gb (sN*4+3)) (.slice C7 no7 d7)) g ⟨sh,wi,ra,ta,A,B,C,nl,al,sl,c,d,f,nd,ac,sy,some (α gb 0),nb,cb,xs.set sN ⟨A7,C7,c7,d7,rl7,NB⟩,An,Au,n1,n2,d1,d2,cl,cu,ep,off⟩):=by
   have h9:=Mm_book Md.out rfl (i:=sN) hsx.out (x:=⟨A7,C7,c7,d7,rl7,NB⟩) (show Bm w3.drew A7 C7 rl7 NB from⟨N7.out.r,N7.out.e,N7.out.n,N7.out.o⟩) (FarX_new (base:=wE.heap.size) (by have:=LT0.out.1;have:=h0f.out;omega) (fun b hb=>by have:=LT0.out.2 b hb;have:=h0f.out;omega) F7.out);simp only[←HN7.out.1,←HN7.out.2.1,←HN7.out.2.2.1,←HN7.out.2.2.2]at h9;exact h9
  have hZb:Hid (gZ≠gb):=fun e=>blk_own_ne Z0.out M0.out.row (by decide) (by rw[e];rfl)
  have Z9:Hid (Blk ((((w3.drew.setCell (α gb (sN*4)) (ι nsh)).setCell (α gb (sN*4+1)) (ι nca)).setCell (α gb (sN*4+2)) (.slice A7 nr7 c7)).setCell (α gb (sN*4+3)) (.slice C7 no7 d7)) gZ 56 (vI 0 0)):=(far_st (far_st (far_st (far_st (show Blk w3.drew gZ 56 (vI 0 0) from Blk.below' Z0.out HBd.out) hZb.out _) hZb.out _) hZb.out _) hZb.out _);have KP9:Hid (Kp w ((((w3.drew.setCell (α gb (sN*4)) (ι nsh)).setCell (α gb (sN*4+1)) (ι nca)).setCell (α gb (sN*4+2)) (.slice A7 nr7 c7)).setCell (α gb (sN*4+3)) (.slice C7 no7 d7)) g (some (α gb 0))):=Kp_setb (Kp_setb (Kp_setb (Kp_setb (Kp_of_below (CrdB.below_step U0.out HBd.out)) _ _) _ _) _ _) _ _
  have HMZ9:Hid (∀z,z<w.heap.size→Mz z g ⟨sh,wi,ra,ta,A,B,C,nl,al,sl,c,d,f,nd,ac,sy,some (α gb 0),nb,cb,xs,An,Au,n1,n2,d1,d2,cl,cu,ep,off⟩→Mz z g ⟨sh,wi,ra,ta,A,B,C,nl,al,sl,c,d,f,nd,ac,sy,some (α gb 0),nb,cb,xs.set sN ⟨A7,C7,c7,d7,rl7,NB⟩,An,Au,n1,n2,d1,d2,cl,cu,ep,off⟩):=by
   intro z hz hmz;have hw0:=U0.out.size;exact Mz_book hmz (i:=sN) hsx.out (x:=⟨A7,C7,c7,d7,rl7,NB⟩) (FzB_new (base:=wE.heap.size) (by have:=h0f.out;omega) F7.out)
  have MZ9:=κ (ξ (Mz_book MZ.out (i:=sN) hsx.out (x:=⟨A7,C7,c7,d7,rl7,NB⟩) (FzB_new (base:=wE.heap.size) (by have:=Z0.out.lt;have:=h0f.out;omega) F7.out)));have E79:Hid (Blk ((((w3.drew.setCell (α gb (sN*4)) (ι nsh)).setCell (α gb (sN*4+1)) (ι nca)).setCell (α gb (sN*4+2)) (.slice A7 nr7 c7)).setCell (α gb (sN*4+3)) (.slice C7 no7 d7)) gE 157 (vE eid (aN:Int) es ex eP eQ eN eT eL eS eE)):=(far_st (far_st (far_st (far_st (show Blk w3.drew gE 157 (vE eid (aN:Int) es ex eP eQ eN eT eL eS eE) from E7.out) hEb.out _) hEb.out _) hEb.out _) hEb.out _)
  go_upto_region 6 with fail
  refine Ω T254 [7] ?_;generalize w3.drew=w8 at HBd Md V7d hh0 hh1 hh2 hh3 hf0 hf1 hf2 hf3 hd1 hd2 hd3 he1 he2 he3 HT M9 Z9 KP9 E7 E79 ⊢;refine jA 0 HT.out ?_;refine jA 1 HT.out ?_;refine jA 2 HT.out ?_;refine jB 3 HT.out ?_;refine jA 4 HT.out ?_;refine jB 5 HT.out ?_;refine jA 6 HT.out ?_;refine jV 7 fun K' hK=>?_
  go_simp;refine hK.out _ _ ?_;clear hK K';refine jP ?_;refine Δ ?_;clear hh0 hh1 hh2 hh3 hf0 hf1 hf2 hf3 hd1 hd2 hd3 he1 he2 he3 HT V7d Md HBd
  go_upto_region 7 with fail
  generalize ((((w8.setCell (α gb (sN*4)) (ι nsh)).setCell (α gb (sN*4+1)) (ι nca)).setCell (α gb (sN*4+2)) (.slice A7 nr7 c7)).setCell (α gb (sN*4+3)) (.slice C7 no7 d7))=w9 at M9 Z9 KP9 E79 ⊢;have HAC:=κ L2.out.symm;have RL:=mrelease_any base g aN ⟨sh,wi,ra,ta,A,B,C,nl,al,sl,c,d,f,nd,ac,sy,some (α gb 0),nb,cb,xs.set sN ⟨A7,C7,c7,d7,rl7,NB⟩,An,Au,n1,n2,d1,d2,cl,cu,ep,off⟩ es eP eQ eN eT eL ex w9 M9 V10.out V5.out haN' (by show al≤100;exact v2) HXX.out;unfold MadeRl at RL;obtain⟨UU,hUU⟩:=ν (Cpl.relU cl cu (gI ac aN) (eP*eL));simp only[←hUU]at RL;have HUU:=κ hUU;clear hUU;obtain⟨j0,j1,j2,j3,j4,j5,j6,j7,j8,j9,j10⟩:=q11_of E79.out
  go_wp2_with fail
  refine RL.mono ?_;rintro e w10 ⟨rfl,A5,A6,d5,d6,nU,hm10,fa5,fb5,hk10⟩;have M10:=κ hm10;have hZ9:=Z9.out.lt;have Z10:=κ (blk_kp Z9.out hk10 MZ9.out.ne hZb.out);have KP10:=κ (Kp_trans KP9.out hk10);have MZ10:Hid (Mz gZ g ⟨sh,wi,ra,ta,A,B,C,nl,al,sl,c,d,f,nd,ac,sy,some (α gb 0),nb,cb,xs.set sN ⟨A7,C7,c7,d7,rl7,NB⟩,A5,A6,n1,nU,d5,d6,cl,UU,ep,off⟩):=⟨MZ9.out.ne,MZ9.out.z1,MZ9.out.z2,MZ9.out.z3,FarE_new hZ9 fa5,FarE_new hZ9 fb5,MZ9.out.zx⟩
  have HEQ:Hid (akF (plO ⟨sh,wi,ra,ta,A,B,C,nl,al,sl,c,d,f,nd,ac,sy,some (α gb 0),nb,cb,xs,An,Au,n1,n2,d1,d2,cl,cu,ep,off⟩) i=(plO ⟨sh,wi,ra,ta,A,B,C,nl,al,sl,c,d,f,nd,ac,sy,some (α gb 0),nb,cb,xs.set sN ⟨A7,C7,c7,d7,rl7,NB⟩,A5,A6,n1,nU,d5,d6,cl,UU,ep,off⟩,(0,0,[]))):=by
   show _=_;rw[HCY.out];unfold plO relP;simp only[List.map_set,←HNB.out,←HEE.out,Int.toNat_natCast,←HUU.out]
  have HMZ:Hid (∀z,z<w.heap.size→Mz z g ⟨sh,wi,ra,ta,A,B,C,nl,al,sl,c,d,f,nd,ac,sy,some (α gb 0),nb,cb,xs,An,Au,n1,n2,d1,d2,cl,cu,ep,off⟩→Mz z g ⟨sh,wi,ra,ta,A,B,C,nl,al,sl,c,d,f,nd,ac,sy,some (α gb 0),nb,cb,xs.set sN ⟨A7,C7,c7,d7,rl7,NB⟩,A5,A6,n1,nU,d5,d6,cl,UU,ep,off⟩):=by
   intro z hz hmz;have h9:=HMZ9.out z hz hmz;have hz9:=Nat.lt_of_lt_of_le hz KP9.out.size;exact⟨h9.ne,h9.z1,h9.z2,h9.z3,FarE_new hz9 fa5,FarE_new hz9 fb5,h9.zx⟩
  clear hm10 fa5 fb5 hk10 hZ9 j0 j1 j2 j3 j4 j5 j6 j7 j8 j9 j10 E79 M9 Z9 KP9 RL;obtain⟨z0,z1,z2,z3⟩:=q2b Z10.out;have zx:=χ ((blk_st Z10.out 0 (ι 0)).cell 1);have F3:Blk (st2 w10 gZ (ι 0) (ι 0)) gZ 56 (vI 0 0):=st2_blk Z10.out
  have hfin:MadeDo base g ⟨sh,wi,ra,ta,A,B,C,nl,al,sl,c,d,f,nd,ac,sy,some (α gb 0),nb,cb,xs,An,Au,n1,n2,d1,d2,cl,cu,ep,off⟩ (plO ⟨sh,wi,ra,ta,A,B,C,nl,al,sl,c,d,f,nd,ac,sy,some (α gb 0),nb,cb,xs.set sN ⟨A7,C7,c7,d7,rl7,NB⟩,A5,A6,n1,nU,d5,d6,cl,UU,ep,off⟩) 0 0 [] w (.returned (.tuple #[.agg (vI 0 0),.slice none 0 0])) (st2 w10 gZ (ι 0) (ι 0)):=by
   unfold st2;refine madeDo_no (q:=⟨sh,wi,ra,ta,A,B,C,nl,al,sl,c,d,f,nd,ac,sy,some (α gb 0),nb,cb,xs.set sN ⟨A7,C7,c7,d7,rl7,NB⟩,A5,A6,n1,nU,d5,d6,cl,UU,ep,off⟩) (Mm_setz (Mm_setz M10.out MZ10.out Z10.out (by decide) 0 _) MZ10.out (blk_st Z10.out 0 _) (by decide) 1 _) rfl rfl ?_ HMZ.out;exact Kp_past (Kp_past KP10.out HGZ'.out 0 _) HGZ'.out 1 _
  have HF:=κ hfin;clear hfin
  go_wp2_with fail
  obtain⟨e0,e1,_,_⟩:=q2b F3;clear F3;unfold st2 at e0 e1 HF;exact bodyPost_ret (v:= .tuple #[.agg #[ι 0,ι 0],.slice none 0 0]) (by simp[results,Tryz.results42,go_sem,e0,e1]) rfl (by first|exact HF.out|(rw[HEQ.out];exact HF.out))
end Mdj
end Go.Proofs.YtfbajlcljfjbkaaGreat
