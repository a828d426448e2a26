/- Texts side by side. -/
import Derived.Test.YtfbajlcljfjbkaaGreatUniat
import Derived.Test.YtfbajlcljfjbkaaGreatUniax
set_option linter.unusedVariables false
set_option linter.unusedSimpArgs false
set_option maxRecDepth 100000
set_option maxHeartbeats 16000000
namespace Go.Proofs.YtfbajlcljfjbkaaGreat
open Kap Go.RowKit Mem
namespace Mdy
open Abv Lax Go.ChangeShapes Go.WideShapes Go.ChangeAt Tre Ref3 Law3 Fix3 Cfg Crd CrdB CrdC Rr4 Bkp Bks Bkf Bcl Dlk Stk Apt Bko Bku Bka Bkc Bkq Bkw Mdp Mdz Mds Mdn Mdo Mdk Lat
open Rul1 hiding below_step
variable {ep:Int} {n:Nat} {p:Pm}
theorem infoOut:(Tryz.prog.info? 114).map (fun i=>(i.zero,i.size,i.bytes))=some (some (.agg #[.int .i64 0,.int .i64 0]),2,16):=by kernel_rfl
def outC(ids:List Int):List (Int×Int):=ids.map fun i=>(1,i)
def swpF(p:Pm)(s ep:Int):Pm×(Int×Int×List (Int×Int)):=
 if hasF p.bs.length s=true then ({p with bs:=p.bs.set s.toNat (sweepF (gB p.bs s.toNat) ep)},(0,(swI ep (gB p.bs s.toNat).op).length,outC (swI ep (gB p.bs s.toNat).op)))
 else (p,(1,0,[]))
theorem swp_no{s:Int}(hn:n=p.bs.length)(h:hasF n s=false):swpF p s ep=(p,(1,0,[])):=by
 unfold swpF;rw[←hn,h,if_neg (by decide)]
theorem swp_yes{k:Nat}{b:Bk}(hn:n=p.bs.length)(h:hasF n (k:Int)=true)(hb:gB p.bs k=b):swpF p (k:Int) ep=({p with bs:=p.bs.set k (sweepF b ep)},((0:Int),((swI ep b.op).length:Int),outC (swI ep b.op))):=by
 unfold swpF;rw[←hn,h,if_pos rfl,Int.toNat_natCast,hb]
theorem outC_snoc(l:List Int)(i:Nat)(h:i<l.length):outC (l.take (i+1))=outC (l.take i)++[(1,gI l i)]:=by
 unfold outC;have e:l.take (i+1)=l.take i++[gI l i]:=by rw[List.take_succ_eq_append_getElem h];simp[gI,h]
 rw[e,List.map_append]
 rfl
theorem msweep_any(base g m:Nat)(q:Mq)(i x:Int)(w:World)(h:Hid (Mm base w g q))(hv:Hid (Vq m q))(hm:m≤900)(hi:inI i)(hx0: -9223372036854775808≤x)(hx1:x≤9223372036854775807):
  Calls Tryz.prog 37 #[.pointer (some ⟨g,0,none⟩),.int .i64 i,.int .i64 x] w (MadeDo base g q (swpF (plO q) i x).1 (swpF (plO q) i x).2.1 (swpF (plO q) i x).2.2.1 (swpF (plO q) i x).2.2.2 w):=by
 obtain⟨sh,wi,ra,ta,A,B,C,nl,al,sl,c,d,f,nd,ac,sy,Ab,nb,cb,xs,An,Au,n1,n2,d1,d2,cl,cu,ep,off⟩:=q;obtain⟨v1,v2,va1,v3,v4,v5,v6,v7,v8,v9,v10⟩:=hv.out;obtain⟨l1,l2,l3,l4,l5,l6⟩:=(⟨h.out.l1,h.out.l2,h.out.l3,h.out.l4,h.out.l5,h.out.l6⟩:nl=nd.length∧al=ac.length∧sl=sy.length∧nb=xs.length∧n1=cl.length∧n2=cu.length);have L1:=κ l1;have L2:=κ l2;have L3:=κ l3;have L4:=κ l4;have L5:=κ l5;have L6:=κ l6;have V4:=κ v4;have V5:=κ v5;have V7:=κ v7;have V9:=κ v9;have V10:=κ v10;simp only at v1 v2 va1 v3 v6 v8;obtain⟨gb,hgb⟩:=own_at h.out.row (by show 0<nb;simp only at v7;omega);simp only at hgb;subst hgb;have hnb:nb≤1000∧1≤nb:=by simp only at v7;omega
 clear l1 l2 l3 l4 l5 l6 v4 v5 v7 v9 v10;have U0:=κ (β w (.cells (vI 0 0) 56));have Z0:=κ (Blk.fresh w 56 (vI 0 0));have M0:=κ (Mm_below h.out U0.out);have MZ:=κ (Mz_of h.out τ)
 go_enter Tryz.func37,Tryz.ntmps37
 go_upto_region 1 with fail
 generalize hgZ:w.heap.size=gZ at Z0 MZ ⊢;have HGZ:=κ hgZ;have HGZ':Hid (w.heap.size≤gZ):=by show _≤_;omega
 clear hgZ;generalize (w.alloc (.cells (vI 0 0) 56))=w0 at Z0 U0 M0 ⊢;have K0:Hid (Blk w0 g 97 (vQ sh wi ra ta A nl c B al d C sl f (some (α gb 0)) nb cb An n1 d1 Au n2 d2 ep off)):=M0.out.blk;obtain⟨k0,k1,k2,k3,k4,k5,k6,k7,k8,k9,k10,k11,f0,f1,f2,f3,f4,f5,f6,f7,f8,f9,f10,f11⟩:=q12_of K0.out;have HAS:=has_any (some (α gb 0)) nb cb i w0 (by omega) hi;have HBL:Hid (nb=(plO ⟨sh,wi,ra,ta,A,B,C,nl,al,sl,c,d,f,nd,ac,sy,some (α gb 0),nb,cb,xs,An,Au,n1,n2,d1,d2,cl,cu,ep,off⟩).bs.length):=by show nb=(xs.map Bx.b).length;rw[List.length_map];exact L4.out
 by_cases hh:hasF nb i=true
 case neg=>
  have hh':hasF nb i=false:=by simpa using hh
  rw[hh']at HAS
  go_upto_region 2 with(refine HAS.mono ?_;rintro e w1 ⟨rfl,hw1⟩;rw[hw1];clear hw1 w1)
  clear k0 k1 k2 k3 k4 k5 k6 k7 k8 k9 k10 k11 f0 f1 f2 f3 f4 f5 f6 f7 f8 f9 f10 f11 K0;have HP0:Hid (swpF (plO ⟨sh,wi,ra,ta,A,B,C,nl,al,sl,c,d,f,nd,ac,sy,some (α gb 0),nb,cb,xs,An,Au,n1,n2,d1,d2,cl,cu,ep,off⟩) i x=((plO ⟨sh,wi,ra,ta,A,B,C,nl,al,sl,c,d,f,nd,ac,sy,some (α gb 0),nb,cb,xs,An,Au,n1,n2,d1,d2,cl,cu,ep,off⟩),(1,0,[]))):=swp_no HBL.out hh'
  go_wp2_with fail
  refine(refused_any 1 _).mono ?_;rintro e wR ⟨rfl,hbR⟩;have HBR:=κ (CrdB.below_step (κ (Below.refl w0.heap.size w0)).out hbR);have MR:=κ (Mm_below M0.out HBR.out);have ZR:=κ (Blk.below' Z0.out HBR.out);have UR:Hid (Kp w wR g (some (α gb 0))):=Kp_of_below (CrdB.below_step U0.out HBR.out);clear hbR;obtain⟨z0,z1,z2,z3⟩:=q2b ZR.out;have zx:=χ ((blk_st ZR.out 0 (ι 1)).cell 1);have F3:Blk (st2 wR gZ (ι 1) (ι 0)) gZ 56 (vI 1 0):=st2_blk ZR.out
  have hfin:MadeDo base g ⟨sh,wi,ra,ta,A,B,C,nl,al,sl,c,d,f,nd,ac,sy,some (α gb 0),nb,cb,xs,An,Au,n1,n2,d1,d2,cl,cu,ep,off⟩ (plO ⟨sh,wi,ra,ta,A,B,C,nl,al,sl,c,d,f,nd,ac,sy,some (α gb 0),nb,cb,xs,An,Au,n1,n2,d1,d2,cl,cu,ep,off⟩) 1 0 [] w (.returned (.tuple #[.agg (vI 1 0),.slice none 0 0])) (st2 wR gZ (ι 1) (ι 0)):=by
   unfold st2;refine madeDo_no (q:=⟨sh,wi,ra,ta,A,B,C,nl,al,sl,c,d,f,nd,ac,sy,some (α gb 0),nb,cb,xs,An,Au,n1,n2,d1,d2,cl,cu,ep,off⟩) (Mm_setz (Mm_setz MR.out MZ.out ZR.out (by decide) 0 _) MZ.out (blk_st ZR.out 0 _) (by decide) 1 _) rfl rfl ?_ (fun z _ h=>Mz_same h);exact Kp_past (Kp_past UR.out HGZ'.out 0 _) HGZ'.out 1 _
  have HF:=κ hfin;clear hfin
  go_wp2_with fail
  obtain⟨e0,e1,_,_⟩:=q2b F3;clear F3;unfold st2 at e0 e1 HF;exact bodyPost_ret (v:= .tuple #[.agg #[ι 1,ι 0],.slice none 0 0]) (by simp[results,Tryz.results37,go_sem,e0,e1]) rfl (by first|exact HF.out|(rw[HP0.out];exact HF.out))
 case pos=>
  rw[hh]at HAS;have hi2:0≤i∧i<(nb:Int):=by simpa[hasF] using hh
  obtain⟨sN,hsN⟩: ∃k:Nat,i=k:=⟨i.toNat,by omega⟩;subst hsN;have hsNb:sN<nb:=by omega
  clear hi2;have hsx:Hid (sN<xs.length):=by show _<_;rw[←L4.out];exact hsNb
  have RM2:=own_room M0.out.row;have c0:=RM2.2.2.2.2.2 (sN*4) _ (by have:=bxs_get xs sN 0 hsx.out (by decide);exact this);have c1:=RM2.2.2.2.2.2 (sN*4+1) _ (by have:=bxs_get xs sN 1 hsx.out (by decide);exact this);have c2:=RM2.2.2.2.2.2 (sN*4+2) _ (by have:=bxs_get xs sN 2 hsx.out (by decide);exact this);have c3:=RM2.2.2.2.2.2 (sN*4+3) _ (by have:=bxs_get xs sN 3 hsx.out (by decide);exact this);clear RM2;have BM0:=κ (M0.out.bm sN hsx.out);have VB:=κ (V9.out sN hsx.out)
  have HGB:Hid (gB (plO ⟨sh,wi,ra,ta,A,B,C,nl,al,sl,c,d,f,nd,ac,sy,some (α gb 0),nb,cb,xs,An,Au,n1,n2,d1,d2,cl,cu,ep,off⟩).bs sN=(gX xs sN).b):=by
   show(xs.map Bx.b).getD sN bk0=_;have h1:=hsx.out;simp[gX,h1]
  obtain⟨X,hX⟩:=ν (gX xs sN);rw[←hX]at HGB;simp only at BM0 VB;rw[←hX]at c0 c1 c2 c3 BM0 VB;have HX:=κ hX;clear hX;obtain⟨XA,XC,xc,xd,xrl,xb⟩:=X;obtain⟨bsh,hbsh⟩:=ν xb.sh;obtain⟨bca,hbca⟩:=ν xb.ca;obtain⟨nr2,hnr2⟩:=ν xb.rows.length;obtain⟨no2,hno2⟩:=ν xb.op.length;simp only[bxV,List.getElem?_cons_zero,List.getElem?_cons_succ]at c0 c1 c2 c3;have HSHB:Hid (bsh=xb.sh∧bca=xb.ca):=⟨hbsh,hbca⟩;have HNR2:=κ hnr2;have HNO2:=κ hno2;simp only at VB BM0 HGB;have FEW:=κ (VB.out.1.few (by omega));rw[←hbsh]at c0;rw[←hbca]at c1;rw[←hnr2]at c2;rw[←hno2]at c3;clear hbsh hbca hnr2 hno2;have tsn:decide ((sN:Int)<(nb:Int))=true:=by simp;omega
  have CX:=sweep_any bsh bca XA XC nr2 no2 xc xd xrl xb x w0 HSHB HNR2 HNO2 BM0 FEW;have HCY:=κ (swp_yes (ep:=x) HBL.out hh HGB.out);obtain⟨NB,hNB⟩:=ν (sweepF xb x);obtain⟨IDS,hIDS⟩:=ν (swI x xb.op);obtain⟨nI,hnI⟩:=ν IDS.length
  have hnI9:nI≤1000:=by
   rw[hnI,hIDS];have h1:=swI_le x xb.op;have h2:=FEW.out.ol;omega
  obtain⟨nsh,hnsh⟩:=ν NB.sh;obtain⟨nca,hnca⟩:=ν NB.ca;obtain⟨nr7,hnr7⟩:=ν NB.rows.length;obtain⟨no7,hno7⟩:=ν NB.op.length;unfold MadeSw at CX;rw[←hNB,←hIDS]at CX;rw[←hNB,←hIDS]at HCY
  have hbk: ∀A7 C7 c7 d7,bkA A7 C7 c7 d7 NB= .agg (vB nsh nca A7 nr7 c7 C7 no7 d7):=by
   intro A7 C7 c7 d7;unfold bkA;rw[hnsh,hnca,hnr7,hno7]
  simp only[hbk,←hnI]at CX;have HNI:=κ hnI;have HN7:Hid (nsh=NB.sh∧nca=NB.ca∧nr7=NB.rows.length∧no7=NB.op.length):=⟨hnsh,hnca,hnr7,hno7⟩;clear hNB hIDS hnI hnsh hnca hnr7 hno7 hbk
  go_upto_region 3 with(refine HAS.mono ?_;rintro e w1 ⟨rfl,hw1⟩;rw[hw1];clear hw1 w1)
  go_wp2_with fail
  refine CX.mono ?_;rintro e w2 ⟨A7,C7,c7,d7,rl7,Ai,ci,rfl,hm7,hf7,hri,hfi,hb7⟩;have F7:=κ hf7;have U3:=β w2 (.cells (vB nsh nca A7 nr7 c7 C7 no7 d7) 75);have V3:=κ (Blk.fresh w2 75 (vB nsh nca A7 nr7 c7 C7 no7 d7));have HB7:=κ (CrdB.below_step hb7 U3);have N7:=κ (hm7.below U3);have I7:=η hri U3;have HFI:=κ hfi;have HVL:=κ hb7.size;clear hm7 hf7 hb7 hri hfi U3 CX HAS
  go_upto_region 4 with fail
  clear k0 k1 k2 k3 k4 k5 k6 k7 k8 k9 k10 k11 f0 f1 f2 f3 f4 f5 f6 f7 f8 f9 f10 f11 c0 c1 c2 c3 K0;obtain⟨gV,hgV⟩:=ν w2.heap.size;have V7:=κ (ζ hgV V3.out);have HVL:Hid (w0.heap.size≤gV):=by rw[hgV];exact HVL.out
  simp only[←hgV];clear hgV V3;generalize w2.alloc (.cells (vB nsh nca A7 nr7 c7 C7 no7 d7) 75)=w3 at HB7 N7 V7 I7 ⊢;have HFB:Hid (w0.heap.size≤w0.heap.size):=τ;have HFI2:Hid (Far g (some (α gb 0)) Ai (ints IDS)):=Far_new (base:=w0.heap.size) (Mm_lt M0.out).1 (Mm_lt M0.out).2 HFI.out;have I79:Hid (Ris ((((w3.drew.setCell (α gb (sN*4)) (ι nsh)).setCell (α gb (sN*4+1)) (ι nca)).setCell (α gb (sN*4+2)) (.slice A7 nr7 c7)).setCell (α gb (sN*4+3)) (.slice C7 no7 d7)) ((((w3.drew.setCell (α gb (sN*4)) (ι nsh)).setCell (α gb (sN*4+1)) (ι nca)).setCell (α gb (sN*4+2)) (.slice A7 nr7 c7)).setCell (α gb (sN*4+3)) (.slice C7 no7 d7)).heap.size Ai IDS):=Rd_setb (Rd_setb (Rd_setb (Rd_setb (show Ris w3.drew w3.drew.heap.size Ai IDS from I7.out) HFI2.out _ _) HFI2.out _ _) HFI2.out _ _) HFI2.out _ _;have HBd:=κ (Below.drew HB7.out);have Md:=κ (Mm_below M0.out HBd.out);have V7d:=κ (ε V7.out);have LT0:=κ (Mm_lt M0.out);have hgb0:=κ (ξ (LT0.out.2 (α gb 0) rfl));have h0f:=κ HFB.out;have RMhh:=own_room Md.out.row;have hh0:=RMhh.2.2.2.2.2 (sN*4) _ (by have:=bxs_get xs sN 0 hsx.out (by decide);rw[←HX.out]at this;exact this);have hh1:=RMhh.2.2.2.2.2 (sN*4+1) _ (by have:=bxs_get xs sN 1 hsx.out (by decide);rw[←HX.out]at this;exact this);have hh2:=RMhh.2.2.2.2.2 (sN*4+2) _ (by have:=bxs_get xs sN 2 hsx.out (by decide);rw[←HX.out]at this;exact this);have hh3:=RMhh.2.2.2.2.2 (sN*4+3) _ (by have:=bxs_get xs sN 3 hsx.out (by decide);rw[←HX.out]at this;exact this);simp only[bxV,List.getElem?_cons_zero,List.getElem?_cons_succ]at hh0 hh1 hh2 hh3;rw[←HSHB.out.1]at hh0;rw[←HSHB.out.2]at hh1;rw[←HNR2.out]at hh2;rw[←HNO2.out]at hh3;clear RMhh;have RMf:=own_room Md.out.row;have hcb:=ξ RMf.2.2.1;have hf0:=(RMf.2.2.2.2.1 (sN*4) (show sN*4<cb*4 by omega)).2;have hf1:=(RMf.2.2.2.2.1 (sN*4+1) (show sN*4+1<cb*4 by omega)).2;have hf2:=(RMf.2.2.2.2.1 (sN*4+2) (show sN*4+2<cb*4 by omega)).2;have hf3:=(RMf.2.2.2.2.1 (sN*4+3) (show sN*4+3<cb*4 by omega)).2;clear RMf hcb;have hd1:=ω (α gb (sN*4)) (ι nsh) hh1;have he1:=φ (α gb (sN*4)) (ι nsh) hf1;have hd2:=ω (α gb (sN*4+1)) (ι nca) (ω (α gb (sN*4)) (ι nsh) hh2);have he2:=φ (α gb (sN*4+1)) (ι nca) (φ (α gb (sN*4)) (ι nsh) hf2);have hd3:=ω (α gb (sN*4+2)) (.slice A7 nr7 c7) (ω (α gb (sN*4+1)) (ι nca) (ω (α gb (sN*4)) (ι nsh) hh3));have he3:=φ (α gb (sN*4+2)) (.slice A7 nr7 c7) (φ (α gb (sN*4+1)) (ι nca) (φ (α gb (sN*4)) (ι nsh) hf3));let T203:World→Prop:=fun w'=>w'.cell? (α g 7)=some (.slice (some (α gb 0)) nb cb)∧w'.cell? (α gV 0)=some (ι nsh)∧w'.cell? (α gV 1)=some (ι nca)∧w'.cell? (α gV 2)=some (.slice A7 nr7 c7)∧w'.cell? (α gV 3)=some (.slice C7 no7 d7)
  have HT:Hid (T203 (w3.drew)):=⟨Md.out.blk.cell 7,V7d.out.cell 0,V7d.out.cell 1,V7d.out.cell 2,V7d.out.cell 3⟩
  have M9:Hid (Mm base ((((w3.drew.setCell (α gb (sN*4)) (ι nsh)).setCell (α gb (sN*4+1)) (ι nca)).setCell (α gb (sN*4+2)) (.slice A7 nr7 c7)).setCell (α gb (sN*4+3)) (.slice C7 no7 d7)) g ⟨sh,wi,ra,ta,A,B,C,nl,al,sl,c,d,f,nd,ac,sy,some (α gb 0),nb,cb,xs.set sN ⟨A7,C7,c7,d7,rl7,NB⟩,An,Au,n1,n2,d1,d2,cl,cu,ep,off⟩):=by
   have h9:=Mm_book Md.out rfl (i:=sN) hsx.out (x:=⟨A7,C7,c7,d7,rl7,NB⟩) (show Bm w3.drew A7 C7 rl7 NB from⟨N7.out.r,N7.out.e,N7.out.n,N7.out.o⟩) (FarX_new (base:=w0.heap.size) (by have:=LT0.out.1;have:=h0f.out;omega) (fun b hb=>by have:=LT0.out.2 b hb;have:=h0f.out;omega) F7.out);simp only[←HN7.out.1,←HN7.out.2.1,←HN7.out.2.2.1,←HN7.out.2.2.2]at h9;exact h9
  have hZb:Hid (gZ≠gb):=fun e=>blk_own_ne Z0.out M0.out.row (by decide) (by rw[e];rfl)
  have Z9:Hid (Blk ((((w3.drew.setCell (α gb (sN*4)) (ι nsh)).setCell (α gb (sN*4+1)) (ι nca)).setCell (α gb (sN*4+2)) (.slice A7 nr7 c7)).setCell (α gb (sN*4+3)) (.slice C7 no7 d7)) gZ 56 (vI 0 0)):=(far_st (far_st (far_st (far_st (show Blk w3.drew gZ 56 (vI 0 0) from Blk.below' Z0.out HBd.out) hZb.out _) hZb.out _) hZb.out _) hZb.out _);have KP9:Hid (Kp w ((((w3.drew.setCell (α gb (sN*4)) (ι nsh)).setCell (α gb (sN*4+1)) (ι nca)).setCell (α gb (sN*4+2)) (.slice A7 nr7 c7)).setCell (α gb (sN*4+3)) (.slice C7 no7 d7)) g (some (α gb 0))):=Kp_setb (Kp_setb (Kp_setb (Kp_setb (Kp_of_below (CrdB.below_step U0.out HBd.out)) _ _) _ _) _ _) _ _
  have HMZ9:Hid (∀z,z<w.heap.size→Mz z g ⟨sh,wi,ra,ta,A,B,C,nl,al,sl,c,d,f,nd,ac,sy,some (α gb 0),nb,cb,xs,An,Au,n1,n2,d1,d2,cl,cu,ep,off⟩→Mz z g ⟨sh,wi,ra,ta,A,B,C,nl,al,sl,c,d,f,nd,ac,sy,some (α gb 0),nb,cb,xs.set sN ⟨A7,C7,c7,d7,rl7,NB⟩,An,Au,n1,n2,d1,d2,cl,cu,ep,off⟩):=by
   intro z hz hmz;have hw0:=U0.out.size;exact Mz_book hmz (i:=sN) hsx.out (x:=⟨A7,C7,c7,d7,rl7,NB⟩) (FzB_new (base:=w0.heap.size) (by have:=h0f.out;omega) F7.out)
  have MZ9:=κ (ξ (Mz_book MZ.out (i:=sN) hsx.out (x:=⟨A7,C7,c7,d7,rl7,NB⟩) (FzB_new (base:=w0.heap.size) (by have:=Z0.out.lt;have:=h0f.out;omega) F7.out)))
  go_upto_region 4 with fail
  refine Ω T203 [7] ?_;generalize w3.drew=w8 at HBd Md V7d hh0 hh1 hh2 hh3 hf0 hf1 hf2 hf3 hd1 hd2 hd3 he1 he2 he3 HT M9 Z9 KP9 I79 I7 N7 ⊢;refine jA 0 HT.out ?_;refine jA 1 HT.out ?_;refine jA 2 HT.out ?_;refine jB 3 HT.out ?_;refine jA 4 HT.out ?_;refine jB 5 HT.out ?_;refine jA 6 HT.out ?_;refine jV 7 fun K' hK=>?_
  go_simp;refine hK.out _ _ ?_;clear hK K';refine jP ?_;refine Δ ?_;clear hh0 hh1 hh2 hh3 hf0 hf1 hf2 hf3 hd1 hd2 hd3 he1 he2 he3 HT V7d Md HBd
  go_upto_region 5 with fail
  generalize ((((w8.setCell (α gb (sN*4)) (ι nsh)).setCell (α gb (sN*4+1)) (ι nca)).setCell (α gb (sN*4+2)) (.slice A7 nr7 c7)).setCell (α gb (sN*4+3)) (.slice C7 no7 d7))=w9 at M9 Z9 KP9 I79 ⊢;obtain⟨i0,hi0,hz0,hz1,hz2⟩:=info_parts infoOut
  go_upto_region 6 with fail
  go_wp2_with fail
  go_loopg [10,44] nI (fun g s10 s44 w'=> ∃(j:Nat) (Ao:Option Addr) (no co:Nat),j+g=nI∧s10= .slice Ao no co∧s44= ι j∧Hid (no=j)∧Hid (w'.ownsRow w9.heap.size 114 2 (.slice Ao no co) no (nds (outC (IDS.take j))))∧Hid (Below w9.heap.size w9 w'))
  case atStart=>exact⟨0,none,0,0,by omega,rfl,rfl,rfl,(by show World.ownsRow _ _ _ _ _ _ [];exact World.ownsRow_nil _ _ _ _),Below.refl _ _⟩
  case round=>
   obtain⟨j,Ao,no,co,hg0,rfl,rfl,HNO,OW,HBr⟩:=hrel;by_cases hlt:j<nI
   ·obtain⟨g9,rfl⟩: ∃g9,gk=g9+1:=⟨gk-1,by omega⟩;have t0:decide ((j:Int)<(nI:Int))=true:=by simp;omega
    have hjl:j<IDS.length:=by rw[←HNI.out];exact hlt
    obtain⟨b9,o9,hA9,hlt9,hc9⟩:=Ris.at (i:=j) I79.out hjl;subst hA9;have hcr:=(HBr.out.cell (p:=(α b9 (o9+j))) hlt9).trans (hc9 j hjl);obtain⟨nj,hnj⟩:=ν (no+1);have HNJ:=κ hnj;clear hnj;have V0:=β wr (.cells (vI 1 (gI IDS j)) 114);have V1:=own_below OW V0;have V2:Hid (Rd (wr.alloc (.cells (vI 1 (gI IDS j)) 114)) (wr.alloc (.cells (vI 1 (gI IDS j)) 114)).heap.size (some (α wr.heap.size 0)) [ι 1,ι (gI IDS j)]):=rd_new rfl;have V3:=κ (CrdB.below_step HBr.out V0);have V4:=V3.out.size;have hno9:no≤1000:=by have:=HNO.out;omega
    go_wp2_with (at_builtin;go_loud (refine wpList_appR (nm:=nj) V1 V3.out V2 HNJ.out rfl _ _ _ rfl i0 (.agg #[.int .i64 0,.int .i64 0]) 16 Tryz.underlying57 hi0 hz0 hz1 hz2 rfl (by decide) rfl rfl (by simp) (by simp[Value.oneCell']) (by unfold maxLen;omega) (by omega) τ V4 V4 ?_);intro A6 c6 w7 hown1 hbel1 hsz1)
    have O7:Hid (w7.ownsRow w9.heap.size 114 2 (.slice A6 nj c6) nj (nds (outC (IDS.take (j+1))))):=by
     rw[outC_snoc IDS j hjl,nds_snoc];exact hown1.out
    have B7:=κ hbel1;have HN9:Hid (nj=j+1):=by show _=_;rw[HNJ.out,HNO.out]
    clear hown1 hbel1 hsz1 V0 V1 V2 V3 V4 hcr hc9
    go_roundg g9
    case measure=>omega
    case rel=>exact⟨j+1,A6,nj,c6,by omega,rfl,by rw[Int.natCast_add];rfl,HN9,O7,B7⟩
   ·have t0:decide ((j:Int)<(nI:Int))=false:=by simp;omega
    have hjn:j=nI:=by omega
    have hall:Hid (IDS.take j=IDS):=by show _=_;rw[hjn,HNI.out,List.take_length]
    have O9:=OW.out;rw[hall.out]at O9;have N9:Hid (Nds wr wr.heap.size Ao (outC IDS)):=Rd.of_own O9;have F9:=κ (fun a ha=>Tre.own_fresh O9 a ha);have M11:=κ (Mm_below M9.out HBr.out);have Z11:=κ (Blk.below' Z9.out HBr.out);have KP11:=κ (Kp_step KP9.out HBr.out);have hZl:=Z9.out.lt;have hwl:=κ KP9.out.size;have hno:Hid (no=(outC IDS).length):=by show _=_;rw[HNO.out,hjn,HNI.out];unfold outC;rw[List.length_map]
    have F3:Blk (st2 wr gZ (ι 0) (ι (nI:Int))) gZ 56 (vI 0 (nI:Int)):=st2_blk Z11.out
    have HEQ:swpF (plO ⟨sh,wi,ra,ta,A,B,C,nl,al,sl,c,d,f,nd,ac,sy,some (α gb 0),nb,cb,xs,An,Au,n1,n2,d1,d2,cl,cu,ep,off⟩) (sN:Int) x=(plO ⟨sh,wi,ra,ta,A,B,C,nl,al,sl,c,d,f,nd,ac,sy,some (α gb 0),nb,cb,xs.set sN ⟨A7,C7,c7,d7,rl7,NB⟩,An,Au,n1,n2,d1,d2,cl,cu,ep,off⟩,(0,(nI:Int),outC IDS)):=by
     rw[HCY.out,←HNI.out];unfold plO;simp only[List.map_set]
    have hfin:MadeDo base g ⟨sh,wi,ra,ta,A,B,C,nl,al,sl,c,d,f,nd,ac,sy,some (α gb 0),nb,cb,xs,An,Au,n1,n2,d1,d2,cl,cu,ep,off⟩ (plO ⟨sh,wi,ra,ta,A,B,C,nl,al,sl,c,d,f,nd,ac,sy,some (α gb 0),nb,cb,xs.set sN ⟨A7,C7,c7,d7,rl7,NB⟩,An,Au,n1,n2,d1,d2,cl,cu,ep,off⟩) 0 (nI:Int) (outC IDS) w (.returned (.tuple #[.agg (vI 0 (nI:Int)),.slice Ao no co])) (st2 wr gZ (ι 0) (ι (nI:Int))):=by
     unfold st2;refine⟨⟨sh,wi,ra,ta,A,B,C,nl,al,sl,c,d,f,nd,ac,sy,some (α gb 0),nb,cb,xs.set sN ⟨A7,C7,c7,d7,rl7,NB⟩,An,Au,n1,n2,d1,d2,cl,cu,ep,off⟩,Ao,no,co,rfl,hno.out,?_,?_,Mm_setz (Mm_setz M11.out MZ9.out Z11.out (by decide) 0 _) MZ9.out (blk_st Z11.out 0 _) (by decide) 1 _,rfl,rfl,Kp_past (Kp_past KP11.out HGZ'.out 0 _) HGZ'.out 1 _,HMZ9.out⟩
     ·exact Rd.keep' (Rd.keep' N9.out (Nat.lt_succ_self _) (fun a ha=>by have:=F9.out a ha;omega) _) (Nat.lt_succ_self _) (fun a ha=>by have:=F9.out a ha;omega) _
     ·intro a ha;exact Nat.le_trans hwl.out (F9.out a ha)
    have HF:=κ hfin;have HEQ:=κ HEQ;clear hfin O9;obtain⟨z0,z1,z2,z3⟩:=q2b Z11.out;have zx:=χ ((blk_st Z11.out 0 (ι 0)).cell 1)
    go_wp2_with fail
    obtain⟨e0,e1,_,_⟩:=q2b F3;clear F3;unfold st2 at e0 e1 HF;exact bodyPost_ret (v:= .tuple #[.agg #[ι 0,ι (nI:Int)],.slice Ao no co]) (by simp[results,Tryz.results37,go_sem,e0,e1]) rfl (by first|exact HF.out|(rw[HEQ.out];exact HF.out))
end Mdy
namespace Wpl
def bts(l:List UInt8):List Value:=l.map fun b=>Value.int .u8 (b.toNat:Int)
variable {x:Int} {n o s:Nat}
theorem bts_len(l:List UInt8):(bts l).length=l.length:=by simp[bts]
def By(w:World)(B:Nat)(A:Option Addr)(l:List UInt8):Prop:=Rd w B A (bts l)
theorem By.at{w:World}{B:Nat}{A:Option Addr}{l:List UInt8}(h:By w B A l){i:Nat}(hi:i<l.length):
  ∃b o,A=some ⟨b,o,none⟩∧b<B∧ ∀j (hj:j<l.length),w.cell? ⟨b,o+j,none⟩=some (.int .u8 (l[j].toNat:Int)):=by
 obtain⟨b,o,hA,hb,hc⟩:=Rd.at h (by intro e;have:=bts_len l;rw[e]at this;simp at this;omega);exact⟨b,o,hA,hb,fun j hj=>hc j _ (by simp[bts,hj])⟩
structure M where
 k:Int
 a:Int
 s:Int
 x:Bool
 p:Int
 q:Int
 n:Int
 t:Int
 i:Int
 y:Int
 z:Int
 v:Int
def mvl(m:M):Value:= .agg #[.int .i64 m.k,.int .i64 m.a,.int .i64 m.s,.bool m.x,.int .i64 m.p,.int .i64 m.q,.int .i64 m.n,.int .i64 m.t,.int .i64 m.i,.int .i64 m.y,.int .i64 m.z,.int .i64 m.v]
def m0:M:=⟨0,0,0,false,0,0,0,0,0,0,0,0⟩
def eqM(m n:M):Bool:=m.k==n.k&&(m.a==n.a&&(m.s==n.s&&(m.x==n.x&&(m.p==n.p&&(m.q==n.q&&(m.n==n.n&&m.t==n.t))))))&&(m.i==n.i&&(m.y==n.y&&(m.z==n.z&&m.v==n.v)))
theorem eqM_iff(m n:M):eqM m n=true↔m=n:=by
 constructor
 ·intro h;simp only[eqM,Bool.and_eq_true,beq_iff_eq]at h;obtain⟨⟨h0,h1,h2,h3,h4,h5,h6,h7⟩,h8,h9,h10,h11⟩:=h;cases m;cases n;simp only at h0 h1 h2 h3 h4 h5 h6 h7 h8 h9 h10 h11;subst h0 h1 h2 h3 h4 h5 h6 h7 h8 h9 h10 h11
  rfl
 ·rintro rfl;simp[eqM]
theorem eqM_self(m:M):eqM m m=true:=(eqM_iff m m).2 rfl
def alM(m:M):M:=
 if m.k=0 then {m0 with k:=m.k,a:=m.a,s:=m.s,x:=m.x,p:=m.p,q:=m.q,n:=m.n,t:=m.t}
 else if m.k=1∨m.k=3 then {m0 with k:=m.k,i:=m.i}
 else if m.k=2 then {m0 with k:=m.k,i:=m.i,y:=m.y}
 else if m.k=6 then {m0 with k:=m.k,z:=m.z,v:=m.v}
 else {m0 with k:=m.k}
def fitP(m:M):Prop:=(0≤m.a∧m.a≤65535)∧(0≤m.s∧m.s≤65535)∧(0≤m.z∧m.z≤65535)∧(0≤m.i∧m.i≤4294967295)∧0≤m.p∧0≤m.q∧0≤m.n∧0≤m.t∧0≤m.y∧0≤m.v
def fitM(m:M):Bool:=decide ((0≤m.a∧m.a≤65535)∧(0≤m.s∧m.s≤65535)∧(0≤m.z∧m.z≤65535)∧(0≤m.i∧m.i≤4294967295)∧0≤m.p∧0≤m.q∧0≤m.n∧0≤m.t∧0≤m.y∧0≤m.v)
theorem fitM_of{m:M}(h:fitM m=true):fitP m:=by
 unfold fitM at h;unfold fitP;simp only[decide_eq_true_eq]at h;exact h
theorem fitM_t{m:M}(h:fitP m):fitM m=true:=by
 unfold fitM;unfold fitP at h;simp only[decide_eq_true_eq];exact h
def rightM(m:M):Bool:=(decide (0≤m.k)&&decide (m.k≤6))&&(eqM m (alM m)&&fitM m)
theorem rightM_of{m:M}(h:rightM m=true):0≤m.k∧m.k≤6∧m=alM m∧fitP m:=by
 unfold rightM at h;simp only[Bool.and_eq_true,decide_eq_true_eq]at h;exact⟨h.1.1,h.1.2,(eqM_iff _ _).1 h.2.1,fitM_of h.2.2⟩
theorem rightM_t{m:M}(h0:0≤m.k)(h1:m.k≤6)(h2:m=alM m)(h3:fitP m):rightM m=true:=by
 unfold rightM;rw[(eqM_iff _ _).2 h2,fitM_t h3];simp[h0,h1]
def WfM(m:M):Prop:=inI m.k∧inI m.a∧inI m.s∧inI m.p∧inI m.q∧inI m.n∧inI m.t∧inI m.i∧inI m.y∧inI m.z∧inI m.v
theorem seg(l:List UInt8)(o s:Nat):l.take (o+s)=l.take o++(l.drop o).take s:=by rw[List.take_add]
theorem tk(l:List UInt8)(o s e:Nat)(he:o+s=e)(xs:List UInt8)(h:xs=(l.drop o).take s):l.take o++xs=l.take e:=by subst he;rw[seg,h]
theorem nn(h:0≤x):((x.toNat:Nat):Int)=x:=Int.toNat_of_nonneg h
end Wpl
end Go.Proofs.YtfbajlcljfjbkaaGreat
