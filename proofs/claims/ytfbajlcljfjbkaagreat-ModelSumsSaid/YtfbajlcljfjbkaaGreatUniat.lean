/- Texts side by side. -/
import Derived.Test.YtfbajlcljfjbkaaGreatUnias
set_option linter.unusedVariables false
set_option linter.unusedSimpArgs false
set_option maxRecDepth 100000
set_option maxHeartbeats 16000000
namespace Go.Proofs.YtfbajlcljfjbkaaGreat
open Kap Abv Lax Go.ChangeShapes Go.WideShapes Go.ChangeAt Go.RowKit Mem Tre Ref3 Law3 Fix3 Cfg Crd CrdB CrdC Rr4 Bkp Bks Bcl Dlk Stk Apt Bko Bku Bka Bkc Mdp Mdz Mds Lat
namespace Mdn
def hasF(n:Nat)(i:Int):Bool:=decide (0≤i)&&decide (i<(n:Int))
theorem has_any(A:Option Addr)(n c:Nat)(i:Int)(w:World)(hn:n≤1000000)(hi:inI i):
  Calls Tryz.prog 52 #[.slice A n c,.int .i64 i] w (fun e w'=>e= .returned (.bool (hasF n i))∧w'=w):=by
 have l0:wrap64 (n:Int)=(n:Int):=by unfold wrap64;omega
 have hF:hasF n i=(decide (0≤i)&&decide (i<(n:Int))):=rfl
 go_enter Tryz.func52,Tryz.ntmps52
 by_cases h0:0≤i
 ·have e:hasF n i=decide (i<(n:Int)):=by simp[hasF,h0]
  rw[e]
  go_wp2_with fail
  exact bodyPost_ret (v:= .bool (decide (i<(n:Int)))) (by simp[results,Tryz.results52,go_sem,l0]) rfl ⟨rfl,rfl⟩
 ·have e:hasF n i=false:=by simp[hasF];omega
  rw[e]
  go_wp2_with fail
  exact bodyPost_ret (v:= .bool false) (by simp[results,Tryz.results52,go_sem,l0]) rfl ⟨rfl,rfl⟩
theorem epoch_any(base g:Nat)(q:Mq)(w:World)(h:Hid (Mm base w g q)):
  Calls Tryz.prog 33 #[.pointer (some ⟨g,0,none⟩)] w (fun e w'=>e= .returned (.tuple #[.int .i64 q.ep,.bool q.off])∧Below w.heap.size w w'):=by
 obtain⟨sh,wi,ra,ta,A,B,C,nl,al,sl,c,d,f,nd,ac,sy,Ab,nb,cb,xs,An,Au,n1,n2,d1,d2,cl,cu,ep,off⟩:=q;have K0:Hid (Blk w g 97 (vQ sh wi ra ta A nl c B al d C sl f Ab nb cb An n1 d1 Au n2 d2 ep off)):=h.out.blk
 go_enter Tryz.func33,Tryz.ntmps33
 obtain⟨k0,k1,k2,k3,k4,k5,k6,k7,k8,k9,k10,k11,f0,f1,f2,f3,f4,f5,f6,f7,f8,f9,f10,f11⟩:=q12_of K0.out
 go_upto_region 3 with fail
 have HT:Hid (w.drew.cell? (α g 10)=some (ι ep)∧w.drew.cell? (α g 11)=some (.bool off)):=⟨k10,k11⟩;refine Ω (fun w'=>w'.cell? (α g 10)=some (ι ep)∧w'.cell? (α g 11)=some (.bool off)) [] ?_;refine jA 0 HT.out ?_;refine jA 1 HT.out ?_;refine jA 2 HT.out ?_;refine jB 3 HT.out ?_;refine jA 4 HT.out ?_;refine jA 5 HT.out ?_;refine jA 6 HT.out ?_;refine jB 7 HT.out ?_;refine jA 8 HT.out ?_;refine jA 9 HT.out ?_;refine Δ ?_
 go_wp2_with fail
 exact bodyPost_ret (v:= .tuple #[ι ep,.bool off]) (by simp[results,Tryz.results33,go_sem]) rfl ⟨rfl,Below.drew ψ⟩
theorem shardOf_any(base g:Nat)(q:Mq)(i:Int)(w:World)(h:Hid (Mm base w g q))(hi:inI i)(hn:1≤q.nb∧q.nb≤1000):
  Calls Tryz.prog 73 #[.pointer (some ⟨g,0,none⟩),.int .i64 i] w (fun e w'=>e= .returned (.int .i64 (i.tmod (q.nb:Int)))∧w'=w):=by
 obtain⟨sh,wi,ra,ta,A,B,C,nl,al,sl,c,d,f,nd,ac,sy,Ab,nb,cb,xs,An,Au,n1,n2,d1,d2,cl,cu,ep,off⟩:=q;have K0:Hid (Blk w g 97 (vQ sh wi ra ta A nl c B al d C sl f Ab nb cb An n1 d1 Au n2 d2 ep off)):=h.out.blk;simp only at hn;have l0:wrap64 (nb:Int)=(nb:Int):=by unfold wrap64;omega
 have l1: ¬(nb:Int)=0:=by omega
 have l2: ¬nb=0:=by omega
 have l3:wrap64 (i.tmod (nb:Int))=i.tmod (nb:Int):=by
  have a1:=Int.tmod_lt_of_pos i (b:=(nb:Int)) (by omega);have a2: -(nb:Int)<i.tmod (nb:Int):=by have:=Int.lt_tmod_of_pos i (b:=(nb:Int)) (by omega);omega
  unfold wrap64;omega
 go_enter Tryz.func73,Tryz.ntmps73
 obtain⟨k0,k1,k2,k3,k4,k5,k6,k7,k8,k9,k10,k11,f0,f1,f2,f3,f4,f5,f6,f7,f8,f9,f10,f11⟩:=q12_of K0.out
 go_wp2_with fail
 exact bodyPost_ret (v:= ι (i.tmod (nb:Int))) (by simp[results,Tryz.results73,go_sem,k7,l0,l1,l2,l3]) rfl ⟨rfl,rfl⟩
end Mdn
namespace Mdk
open Bkf Bkq Mdn Mdo
open Rul1 hiding below_step
def shN(p:Pm)(i:Int):Nat:=(i.tmod (p.bs.length:Int)).toNat
def canF(p:Pm)(i:Int):Pm×(Int×Int×List (Int×Int)):=
 if (cancelF (gB p.bs (shN p i)) i).2≠0 then (p,((cancelF (gB p.bs (shN p i)) i).2,0,[]))
 else ({p with bs:=p.bs.set (shN p i) (cancelF (gB p.bs (shN p i)) i).1},(0,0,[(1,i)]))
variable {b:Bk} {i:Int} {s:Nat} {p:Pm}
theorem can_no{c:Int}(hs:shN p i=s)(hb:gB p.bs s=b)(hc:(cancelF b i).2=c)(h:c≠0):canF p i=(p,(c,0,[])):=by
 unfold canF;rw[hs,hb,hc,if_pos h]
theorem can_yes(hs:shN p i=s)(hb:gB p.bs s=b)(h:(cancelF b i).2=0):canF p i=({p with bs:=p.bs.set s (cancelF b i).1},(0,0,[(1,i)])):=by
 unfold canF;rw[hs,hb,if_neg (by rw[h];decide)]
theorem shN_of{n k:Nat}(hn:n=p.bs.length)(h:i.tmod (n:Int)=(k:Int)):shN p i=k:=by unfold shN;rw[←hn,h];rfl
theorem tmod_at(i:Int)(n:Nat)(hi:0≤i)(hn:1≤n): ∃k:Nat,i.tmod (n:Int)=(k:Int)∧k<n:=by
 have a1:=Int.tmod_lt_of_pos i (b:=(n:Int)) (by omega);have a2:0≤i.tmod (n:Int):=Int.tmod_nonneg _ hi;exact⟨(i.tmod (n:Int)).toNat,by omega,by omega⟩
theorem mcancel_any(base g m:Nat)(q:Mq)(i:Int)(w:World)(h:Hid (Mm base w g q))(hv:Hid (Vq m q))(hm:m≤900)(hi0:0≤i)(hi1:i≤9223372036854775807):
  Calls Tryz.prog 40 #[.pointer (some ⟨g,0,none⟩),.int .i64 i] w (MadeDo base g q (canF (plO q) i).1 (canF (plO q) i).2.1 (canF (plO q) i).2.2.1 (canF (plO q) i).2.2.2 w):=by
 obtain⟨sh,wi,ra,ta,A,B,C,nl,al,sl,c,d,f,nd,ac,sy,Ab,nb,cb,xs,An,Au,n1,n2,d1,d2,cl,cu,ep,off⟩:=q;obtain⟨v1,v2,va1,v3,v4,v5,v6,v7,v8,v9,v10⟩:=hv.out;obtain⟨l1,l2,l3,l4,l5,l6⟩:=(⟨h.out.l1,h.out.l2,h.out.l3,h.out.l4,h.out.l5,h.out.l6⟩:nl=nd.length∧al=ac.length∧sl=sy.length∧nb=xs.length∧n1=cl.length∧n2=cu.length);have L1:=κ l1;have L2:=κ l2;have L3:=κ l3;have L4:=κ l4;have L5:=κ l5;have L6:=κ l6;have V4:=κ v4;have V5:=κ v5;have V7:=κ v7;have V9:=κ v9;have V10:=κ v10;simp only at v1 v2 va1 v3 v6 v8;obtain⟨gb,hgb⟩:=own_at h.out.row (by show 0<nb;simp only at v7;omega);simp only at hgb;subst hgb;have hnb:nb≤1000∧1≤nb:=by simp only at v7;omega
 clear l1 l2 l3 l4 l5 l6 v4 v5 v7 v9 v10;have U0:=κ (β w (.cells (vI 0 0) 56));have Z0:=κ (Blk.fresh w 56 (vI 0 0));have M0:=κ (Mm_below h.out U0.out);have MZ:=κ (Mz_of h.out τ)
 go_enter Tryz.func40,Tryz.ntmps40
 go_upto_region 1 with fail
 generalize hgZ:w.heap.size=gZ at Z0 MZ ⊢;have HGZ:=κ hgZ;have HGZ':Hid (w.heap.size≤gZ):=by show _≤_;omega
 clear hgZ;generalize (w.alloc (.cells (vI 0 0) 56))=w0 at Z0 U0 M0 ⊢;have K0:Hid (Blk w0 g 97 (vQ sh wi ra ta A nl c B al d C sl f (some (α gb 0)) nb cb An n1 d1 Au n2 d2 ep off)):=M0.out.blk;obtain⟨k0,k1,k2,k3,k4,k5,k6,k7,k8,k9,k10,k11,f0,f1,f2,f3,f4,f5,f6,f7,f8,f9,f10,f11⟩:=q12_of K0.out;have HSO:=shardOf_any base g ⟨sh,wi,ra,ta,A,B,C,nl,al,sl,c,d,f,nd,ac,sy,some (α gb 0),nb,cb,xs,An,Au,n1,n2,d1,d2,cl,cu,ep,off⟩ i w0 M0 ⟨by omega,hi1⟩ (by show 1≤nb∧nb≤1000;omega);obtain⟨sN,hsN,hsNb⟩:=tmod_at i nb hi0 hnb.2;simp only at HSO;rw[hsN]at HSO;have HSN:Hid (shN (plO ⟨sh,wi,ra,ta,A,B,C,nl,al,sl,c,d,f,nd,ac,sy,some (α gb 0),nb,cb,xs,An,Au,n1,n2,d1,d2,cl,cu,ep,off⟩) i=sN):=shN_of (n:=nb) (by show nb=(xs.map Bx.b).length;rw[List.length_map];exact L4.out) hsN;clear hsN;have hsx:Hid (sN<xs.length):=by show _<_;rw[←L4.out];exact hsNb
 have RM2:=own_room M0.out.row;have c0:=RM2.2.2.2.2.2 (sN*4) _ (by have:=bxs_get xs sN 0 hsx.out (by decide);exact this);have c1:=RM2.2.2.2.2.2 (sN*4+1) _ (by have:=bxs_get xs sN 1 hsx.out (by decide);exact this);have c2:=RM2.2.2.2.2.2 (sN*4+2) _ (by have:=bxs_get xs sN 2 hsx.out (by decide);exact this);have c3:=RM2.2.2.2.2.2 (sN*4+3) _ (by have:=bxs_get xs sN 3 hsx.out (by decide);exact this);clear RM2;have BM0:=κ (M0.out.bm sN hsx.out);have VB:=κ (V9.out sN hsx.out)
 have HGB:Hid (gB (plO ⟨sh,wi,ra,ta,A,B,C,nl,al,sl,c,d,f,nd,ac,sy,some (α gb 0),nb,cb,xs,An,Au,n1,n2,d1,d2,cl,cu,ep,off⟩).bs sN=(gX xs sN).b):=by
  show(xs.map Bx.b).getD sN bk0=_;have h1:=hsx.out;simp[gX,h1]
 obtain⟨X,hX⟩:=ν (gX xs sN);rw[←hX]at HGB;simp only at BM0 VB;rw[←hX]at c0 c1 c2 c3 BM0 VB;have HX:=κ hX;clear hX;obtain⟨XA,XC,xc,xd,xrl,xb⟩:=X;obtain⟨bsh,hbsh⟩:=ν xb.sh;obtain⟨bca,hbca⟩:=ν xb.ca;obtain⟨nr2,hnr2⟩:=ν xb.rows.length;obtain⟨no2,hno2⟩:=ν xb.op.length;simp only[bxV,List.getElem?_cons_zero,List.getElem?_cons_succ]at c0 c1 c2 c3;have HSHB:Hid (bsh=xb.sh∧bca=xb.ca):=⟨hbsh,hbca⟩;have HNR2:=κ hnr2;have HNO2:=κ hno2;simp only at VB BM0 HGB;have FEW:=κ (VB.out.1.few (by omega));rw[←hbsh]at c0;rw[←hbca]at c1;rw[←hnr2]at c2;rw[←hno2]at c3;clear hbsh hbca hnr2 hno2;have tsn:decide ((sN:Int)<(nb:Int))=true:=by simp;omega
 have CX:=cancel_any bsh bca XA XC nr2 no2 xc xd xrl xb i w0 HSHB HNR2 HNO2 BM0 FEW;obtain⟨NB,hNB⟩:=ν ((cancelF xb i).1);obtain⟨cc,hcc⟩:=ν ((cancelF xb i).2);obtain⟨nsh,hnsh⟩:=ν NB.sh;obtain⟨nca,hnca⟩:=ν NB.ca;obtain⟨nr7,hnr7⟩:=ν NB.rows.length;obtain⟨no7,hno7⟩:=ν NB.op.length;unfold MadeB2 at CX;rw[←hNB,←hcc]at CX
 have hbk: ∀A7 C7 c7 d7,bkA A7 C7 c7 d7 NB= .agg (vB nsh nca A7 nr7 c7 C7 no7 d7):=by
  intro A7 C7 c7 d7;unfold bkA;rw[hnsh,hnca,hnr7,hno7]
 simp only[hbk]at CX;have HNB:=κ hNB;have HCC:=κ hcc;have HN7:Hid (nsh=NB.sh∧nca=NB.ca∧nr7=NB.rows.length∧no7=NB.op.length):=⟨hnsh,hnca,hnr7,hno7⟩;clear hNB hcc hnsh hnca hnr7 hno7 hbk
 go_upto_region 2 with(refine HSO.mono ?_;rintro e w1 ⟨rfl,hw1⟩;rw[hw1];clear hw1 w1)
 go_wp2_with fail
 refine CX.mono ?_;rintro e w2 ⟨A7,C7,c7,d7,rl7,rfl,hm7,hf7,hb7⟩;have HB2:=κ hb7;have N2:=κ hm7;have F7:=κ hf7;have U3:=β w2 (.cells (vB nsh nca A7 nr7 c7 C7 no7 d7) 75);have V3:=κ (Blk.fresh w2 75 (vB nsh nca A7 nr7 c7 C7 no7 d7));have HB7:=κ (CrdB.below_step hb7 U3);have N7:=κ (hm7.below U3);have HVL:=κ hb7.size;clear hm7 hf7 hb7 U3 CX HSO
 go_upto_region 3 with fail
 clear k0 k1 k2 k3 k4 k5 k6 k7 k8 k9 k10 k11 f0 f1 f2 f3 f4 f5 f6 f7 f8 f9 f10 f11 c0 c1 c2 c3 K0 N2 HB2;obtain⟨gV,hgV⟩:=ν w2.heap.size;have V7:=κ (ζ hgV V3.out);have HVL:Hid (w0.heap.size≤gV):=by rw[hgV];exact HVL.out
 simp only[←hgV];clear hgV V3;generalize w2.alloc (.cells (vB nsh nca A7 nr7 c7 C7 no7 d7) 75)=w3 at HB7 N7 V7 ⊢;by_cases hcc0:cc=0
 case neg=>
  have t1:(cc != 0)=true:=by simp[hcc0]
  go_upto_region 4 with fail
  have HP0:=κ (can_no HSN.out HGB.out HCC.out.symm hcc0)
  go_wp2_with fail
  refine(refused_any cc _).mono ?_;rintro e wR ⟨rfl,hbR⟩;have HBR:=κ (CrdB.below_step HB7.out hbR);have MR:=κ (Mm_below M0.out HBR.out);have ZR:=κ (Blk.below' Z0.out HBR.out);have UR:Hid (Kp w wR g (some (α gb 0))):=Kp_of_below (CrdB.below_step U0.out HBR.out);clear hbR;obtain⟨z0,z1,z2,z3⟩:=q2b ZR.out;have zx:=χ ((blk_st ZR.out 0 (ι cc)).cell 1);have F3:Blk (st2 wR gZ (ι cc) (ι 0)) gZ 56 (vI cc 0):=st2_blk ZR.out
  have hfin:MadeDo base g ⟨sh,wi,ra,ta,A,B,C,nl,al,sl,c,d,f,nd,ac,sy,some (α gb 0),nb,cb,xs,An,Au,n1,n2,d1,d2,cl,cu,ep,off⟩ (plO ⟨sh,wi,ra,ta,A,B,C,nl,al,sl,c,d,f,nd,ac,sy,some (α gb 0),nb,cb,xs,An,Au,n1,n2,d1,d2,cl,cu,ep,off⟩) cc 0 [] w (.returned (.tuple #[.agg (vI cc 0),.slice none 0 0])) (st2 wR gZ (ι cc) (ι 0)):=by
   unfold st2;refine madeDo_no (q:=⟨sh,wi,ra,ta,A,B,C,nl,al,sl,c,d,f,nd,ac,sy,some (α gb 0),nb,cb,xs,An,Au,n1,n2,d1,d2,cl,cu,ep,off⟩) (Mm_setz (Mm_setz MR.out MZ.out ZR.out (by decide) 0 _) MZ.out (blk_st ZR.out 0 _) (by decide) 1 _) rfl rfl ?_ (fun z _ h=>Mz_same h);exact Kp_past (Kp_past UR.out HGZ'.out 0 _) HGZ'.out 1 _
  have HF:=κ hfin;clear hfin
  go_wp2_with fail
  obtain⟨e0,e1,_,_⟩:=q2b F3;clear F3;unfold st2 at e0 e1 HF;exact bodyPost_ret (v:= .tuple #[.agg #[ι cc,ι 0],.slice none 0 0]) (by simp[results,Tryz.results40,go_sem,e0,e1]) rfl (by first|exact HF.out|(rw[HP0.out];exact HF.out))
 case pos=>
  have t1:(cc != 0)=false:=by simp[hcc0]
  have HCY:=κ (can_yes HSN.out HGB.out (by rw[←HCC.out];exact hcc0));have HFB:Hid (w0.heap.size≤w0.heap.size):=τ;clear hcc0
  go_upto_region 5 with fail
  have HBd:=κ (Below.drew HB7.out);have Md:=κ (Mm_below M0.out HBd.out);have V7d:=κ (ε V7.out);have LT0:=κ (Mm_lt M0.out);have hgb0:=κ (ξ (LT0.out.2 (α gb 0) rfl));have h0f:=κ HFB.out;have RMhh:=own_room Md.out.row;have hh0:=RMhh.2.2.2.2.2 (sN*4) _ (by have:=bxs_get xs sN 0 hsx.out (by decide);rw[←HX.out]at this;exact this);have hh1:=RMhh.2.2.2.2.2 (sN*4+1) _ (by have:=bxs_get xs sN 1 hsx.out (by decide);rw[←HX.out]at this;exact this);have hh2:=RMhh.2.2.2.2.2 (sN*4+2) _ (by have:=bxs_get xs sN 2 hsx.out (by decide);rw[←HX.out]at this;exact this);have hh3:=RMhh.2.2.2.2.2 (sN*4+3) _ (by have:=bxs_get xs sN 3 hsx.out (by decide);rw[←HX.out]at this;exact this);simp only[bxV,List.getElem?_cons_zero,List.getElem?_cons_succ]at hh0 hh1 hh2 hh3;rw[←HSHB.out.1]at hh0;rw[←HSHB.out.2]at hh1;rw[←HNR2.out]at hh2;rw[←HNO2.out]at hh3;clear RMhh;have RMf:=own_room Md.out.row;have hcb:=ξ RMf.2.2.1;have hf0:=(RMf.2.2.2.2.1 (sN*4) (show sN*4<cb*4 by omega)).2;have hf1:=(RMf.2.2.2.2.1 (sN*4+1) (show sN*4+1<cb*4 by omega)).2;have hf2:=(RMf.2.2.2.2.1 (sN*4+2) (show sN*4+2<cb*4 by omega)).2;have hf3:=(RMf.2.2.2.2.1 (sN*4+3) (show sN*4+3<cb*4 by omega)).2;clear RMf hcb;have hd1:=ω (α gb (sN*4)) (ι nsh) hh1;have he1:=φ (α gb (sN*4)) (ι nsh) hf1;have hd2:=ω (α gb (sN*4+1)) (ι nca) (ω (α gb (sN*4)) (ι nsh) hh2);have he2:=φ (α gb (sN*4+1)) (ι nca) (φ (α gb (sN*4)) (ι nsh) hf2);have hd3:=ω (α gb (sN*4+2)) (.slice A7 nr7 c7) (ω (α gb (sN*4+1)) (ι nca) (ω (α gb (sN*4)) (ι nsh) hh3));have he3:=φ (α gb (sN*4+2)) (.slice A7 nr7 c7) (φ (α gb (sN*4+1)) (ι nca) (φ (α gb (sN*4)) (ι nsh) hf3));let T194:World→Prop:=fun w'=>w'.cell? (α g 7)=some (.slice (some (α gb 0)) nb cb)∧w'.cell? (α gV 0)=some (ι nsh)∧w'.cell? (α gV 1)=some (ι nca)∧w'.cell? (α gV 2)=some (.slice A7 nr7 c7)∧w'.cell? (α gV 3)=some (.slice C7 no7 d7)
  have HT:Hid (T194 (w3.drew)):=⟨Md.out.blk.cell 7,V7d.out.cell 0,V7d.out.cell 1,V7d.out.cell 2,V7d.out.cell 3⟩
  have M9:Hid (Mm base ((((w3.drew.setCell (α gb (sN*4)) (ι nsh)).setCell (α gb (sN*4+1)) (ι nca)).setCell (α gb (sN*4+2)) (.slice A7 nr7 c7)).setCell (α gb (sN*4+3)) (.slice C7 no7 d7)) g ⟨sh,wi,ra,ta,A,B,C,nl,al,sl,c,d,f,nd,ac,sy,some (α gb 0),nb,cb,xs.set sN ⟨A7,C7,c7,d7,rl7,NB⟩,An,Au,n1,n2,d1,d2,cl,cu,ep,off⟩):=by
   have h9:=Mm_book Md.out rfl (i:=sN) hsx.out (x:=⟨A7,C7,c7,d7,rl7,NB⟩) (show Bm w3.drew A7 C7 rl7 NB from⟨N7.out.r,N7.out.e,N7.out.n,N7.out.o⟩) (FarX_new (base:=w0.heap.size) (by have:=LT0.out.1;have:=h0f.out;omega) (fun b hb=>by have:=LT0.out.2 b hb;have:=h0f.out;omega) F7.out);simp only[←HN7.out.1,←HN7.out.2.1,←HN7.out.2.2.1,←HN7.out.2.2.2]at h9;exact h9
  have hZb:Hid (gZ≠gb):=fun e=>blk_own_ne Z0.out M0.out.row (by decide) (by rw[e];rfl)
  have Z9:Hid (Blk ((((w3.drew.setCell (α gb (sN*4)) (ι nsh)).setCell (α gb (sN*4+1)) (ι nca)).setCell (α gb (sN*4+2)) (.slice A7 nr7 c7)).setCell (α gb (sN*4+3)) (.slice C7 no7 d7)) gZ 56 (vI 0 0)):=(far_st (far_st (far_st (far_st (show Blk w3.drew gZ 56 (vI 0 0) from Blk.below' Z0.out HBd.out) hZb.out _) hZb.out _) hZb.out _) hZb.out _);have KP9:Hid (Kp w ((((w3.drew.setCell (α gb (sN*4)) (ι nsh)).setCell (α gb (sN*4+1)) (ι nca)).setCell (α gb (sN*4+2)) (.slice A7 nr7 c7)).setCell (α gb (sN*4+3)) (.slice C7 no7 d7)) g (some (α gb 0))):=Kp_setb (Kp_setb (Kp_setb (Kp_setb (Kp_of_below (CrdB.below_step U0.out HBd.out)) _ _) _ _) _ _) _ _
  have HMZ9:Hid (∀z,z<w.heap.size→Mz z g ⟨sh,wi,ra,ta,A,B,C,nl,al,sl,c,d,f,nd,ac,sy,some (α gb 0),nb,cb,xs,An,Au,n1,n2,d1,d2,cl,cu,ep,off⟩→Mz z g ⟨sh,wi,ra,ta,A,B,C,nl,al,sl,c,d,f,nd,ac,sy,some (α gb 0),nb,cb,xs.set sN ⟨A7,C7,c7,d7,rl7,NB⟩,An,Au,n1,n2,d1,d2,cl,cu,ep,off⟩):=by
   intro z hz hmz;have hw0:=U0.out.size;exact Mz_book hmz (i:=sN) hsx.out (x:=⟨A7,C7,c7,d7,rl7,NB⟩) (FzB_new (base:=w0.heap.size) (by have:=h0f.out;omega) F7.out)
  have MZ9:=κ (ξ (Mz_book MZ.out (i:=sN) hsx.out (x:=⟨A7,C7,c7,d7,rl7,NB⟩) (FzB_new (base:=w0.heap.size) (by have:=Z0.out.lt;have:=h0f.out;omega) F7.out)))
  go_upto_region 5 with fail
  refine Ω T194 [7] ?_;generalize w3.drew=w8 at HBd Md V7d hh0 hh1 hh2 hh3 hf0 hf1 hf2 hf3 hd1 hd2 hd3 he1 he2 he3 HT M9 Z9 KP9 ⊢;refine jA 0 HT.out ?_;refine jA 1 HT.out ?_;refine jA 2 HT.out ?_;refine jB 3 HT.out ?_;refine jA 4 HT.out ?_;refine jB 5 HT.out ?_;refine jA 6 HT.out ?_;refine jV 7 fun K' hK=>?_
  go_simp;refine hK.out _ _ ?_;clear hK K';refine jP ?_;refine Δ ?_;clear hh0 hh1 hh2 hh3 hf0 hf1 hf2 hf3 hd1 hd2 hd3 he1 he2 he3 HT V7d Md HBd
  go_upto_region 6 with fail
  generalize ((((w8.setCell (α gb (sN*4)) (ι nsh)).setCell (α gb (sN*4+1)) (ι nca)).setCell (α gb (sN*4+2)) (.slice A7 nr7 c7)).setCell (α gb (sN*4+3)) (.slice C7 no7 d7))=w9 at M9 Z9 KP9 ⊢;have U11:=κ (β w9 (.cells (vI 1 i) 114));have Z11:=κ (Blk.below' Z9.out U11.out);have M11:=κ (Mm_below M9.out U11.out);have hO:Hid (Nds (w9.alloc (.cells (vI 1 i) 114)) (w9.alloc (.cells (vI 1 i) 114)).heap.size (some (α w9.heap.size 0)) [(1,i)]):=rd_new rfl;have KP11:=κ (Kp_step KP9.out U11.out);have hZO:Hid (w9.heap.size≠gZ):=by show _≠_;have:=Z9.out.lt;omega
  have F3:Blk (st2 (w9.alloc (.cells (vI 1 i) 114)) gZ (ι 0) (ι 0)) gZ 56 (vI 0 0):=st2_blk Z11.out
  have HEQ:canF (plO ⟨sh,wi,ra,ta,A,B,C,nl,al,sl,c,d,f,nd,ac,sy,some (α gb 0),nb,cb,xs,An,Au,n1,n2,d1,d2,cl,cu,ep,off⟩) i=(plO ⟨sh,wi,ra,ta,A,B,C,nl,al,sl,c,d,f,nd,ac,sy,some (α gb 0),nb,cb,xs.set sN ⟨A7,C7,c7,d7,rl7,NB⟩,An,Au,n1,n2,d1,d2,cl,cu,ep,off⟩,(0,0,[(1,i)])):=by
   rw[HCY.out];unfold plO;simp only[List.map_set,←HNB.out]
  have hfin:MadeDo base g ⟨sh,wi,ra,ta,A,B,C,nl,al,sl,c,d,f,nd,ac,sy,some (α gb 0),nb,cb,xs,An,Au,n1,n2,d1,d2,cl,cu,ep,off⟩ (plO ⟨sh,wi,ra,ta,A,B,C,nl,al,sl,c,d,f,nd,ac,sy,some (α gb 0),nb,cb,xs.set sN ⟨A7,C7,c7,d7,rl7,NB⟩,An,Au,n1,n2,d1,d2,cl,cu,ep,off⟩) 0 0 [(1,i)] w (.returned (.tuple #[.agg (vI 0 0),.slice (some (α w9.heap.size 0)) 1 1])) (st2 (w9.alloc (.cells (vI 1 i) 114)) gZ (ι 0) (ι 0)):=by
   unfold st2;refine⟨⟨sh,wi,ra,ta,A,B,C,nl,al,sl,c,d,f,nd,ac,sy,some (α gb 0),nb,cb,xs.set sN ⟨A7,C7,c7,d7,rl7,NB⟩,An,Au,n1,n2,d1,d2,cl,cu,ep,off⟩,some (α w9.heap.size 0),1,1,rfl,rfl,?_,?_,Mm_setz (Mm_setz M11.out MZ9.out Z11.out (by decide) 0 _) MZ9.out (blk_st Z11.out 0 _) (by decide) 1 _,rfl,rfl,Kp_past (Kp_past KP11.out HGZ'.out 0 _) HGZ'.out 1 _,HMZ9.out⟩
   ·exact Rd.keep' (Rd.keep' hO.out (Nat.lt_succ_self _) (fun a ha=>by have e:=Option.some.inj ha;rw[←e];exact hZO.out) _) (Nat.lt_succ_self _) (fun a ha=>by have e:=Option.some.inj ha;rw[←e];exact hZO.out) _
   ·intro a ha;have e:=Option.some.inj ha;rw[←e];exact KP9.out.size
  have HF:=κ hfin;have HEQ:=κ HEQ;clear hfin;obtain⟨z0,z1,z2,z3⟩:=q2b Z9.out;have zx:=χ ((blk_st Z9.out 0 (ι 0)).cell 1);obtain⟨s0,s1,s2,s3⟩:=q2b Z11.out
  go_wp2_with fail
  obtain⟨e0,e1,_,_⟩:=q2b F3;clear F3;unfold st2 at e0 e1 HF;exact bodyPost_ret (v:= .tuple #[.agg #[ι 0,ι 0],.slice (some (α w9.heap.size 0)) 1 1]) (by simp[results,Tryz.results40,go_sem,e0,e1]) rfl (by first|exact HF.out|(rw[HEQ.out];exact HF.out))
end Mdk
end Go.Proofs.YtfbajlcljfjbkaaGreat
