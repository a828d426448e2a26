/- Texts side by side. -/
import Derived.Test.YtfbajlcljfjbkaaGreatUdac
import Derived.Test.YtfbajlcljfjbkaaGreatUdap
set_option linter.unusedVariables false
set_option linter.unusedSimpArgs false
set_option maxRecDepth 100000
set_option maxHeartbeats 16000000
namespace Go.Proofs.YtfbajlcljfjbkaaGreat
open Kap Abv Go.ChangeShapes Go.WideShapes Go.ChangeAt Go.RowKit Mem Tre Ref3 Law3 Fix3 Cfg CrdB CrdC Rr4 Bkp Bks Bcl Dlk Stk Apt Bko Bku Bka Bkc Cfr Mdp Mdz Mds
namespace Mdx
open Lax Crd Mdc Lat
theorem credit_any(base g:Nat)(q:Mq)(w:World)(h:Hid (Mm base w g q))(hl:q.cl.length≤100000)(hu:q.cu.length≤100000):
  Calls Tryz.prog 18 #[.pointer (some ⟨g,0,none⟩)] w (MadeStF q.cl q.cu w):=by
 obtain⟨sh,wi,ra,ta,A,B,C,nl,al,sl,c,d,f,nd,ac,sy,Ab,nb,cb,xs,An,Au,n1,n2,d1,d2,cl,cu,ep,off⟩:=q;simp only at hl hu;have U0:=κ (β w (.cells (vS none 0 0 none 0 0) 80));have Z0:=κ (Blk.fresh w 80 (vS none 0 0 none 0 0));have M0:=κ (Mm_below h.out U0.out)
 go_enter Tryz.func18,Tryz.ntmps18
 go_upto_region 1 with fail
 generalize hgZ:w.heap.size=gZ at Z0 ⊢;have HGZ:=κ hgZ;clear hgZ;generalize (w.alloc (.cells (vS none 0 0 none 0 0) 80))=w0 at Z0 U0 M0 ⊢;have K0:Hid (Blk w0 g 97 (vQ sh wi ra ta A nl c B al d C sl f Ab nb cb An n1 d1 Au n2 d2 ep off)):=M0.out.blk;have L5:=κ (ξ M0.out.l5);have L6:=κ (ξ M0.out.l6);obtain⟨k0,k1,k2,k3,k4,k5,k6,k7,k8,k9,k10,k11,f0,f1,f2,f3,f4,f5,f6,f7,f8,f9,f10,f11⟩:=q12_of K0.out
 go_upto_region 3 with fail
 clear k0 k1 k2 k3 k4 k5 k6 k7 k8 k9 k10 k11 f0 f1 f2 f3 f4 f5 f6 f7 f8 f9 f10 f11 K0;let T21:World→Prop:=fun w'=>w'.cell? (α g 8)=some (.slice An n1 d1)∧w'.cell? (α g 9)=some (.slice Au n2 d2)
 have HT:Hid (T21 (w0.drew)):=⟨M0.out.blk.cell 8,M0.out.blk.cell 9⟩;refine Ω T21 [13] ?_;refine jA 0 HT.out ?_;refine jA 1 HT.out ?_;refine jA 2 HT.out ?_;refine jA 3 HT.out ?_;refine jB 4 HT.out ?_;refine jA 6 HT.out ?_;refine jA 7 HT.out ?_;refine jA 8 HT.out ?_;refine jA 9 HT.out ?_;refine jB 10 HT.out ?_;refine jN 5 fun K' hK=>?_
 go_simp;refine(cloneD An n1 d1 cl _ L5 (κ (Rd.below' M0.out.cn (Below.drew ψ) τ)) (by rw[L5.out];omega)).mono ?_;rintro e w1 ⟨A1,c1,rfl,how1,hb1⟩;have HB1:=κ (CrdB.below_step (Below.drew ψ) hb1);have U1:=κ (CrdB.below_step U0.out HB1.out);have M1:=κ (Mm_below M0.out HB1.out);have Z1:=κ (Blk.below' Z0.out HB1.out);have S0:=κ U0.out.size;have O1:=κ (own_mono how1 S0.out);have HT2:Hid (T21 w1):=⟨M1.out.blk.cell 8,M1.out.blk.cell 9⟩;clear how1 hb1
 go_wp2_with fail
 refine hK.out _ _ HT2.out ?_;clear hK K';refine jP ?_;refine jN 11 fun K' hK=>?_
 go_simp;refine(cloneI Au n2 d2 cu _ L6 (κ M1.out.cr) (by rw[L6.out];omega)).mono ?_;rintro e w2 ⟨A2,c2,rfl,how2,hb2⟩;have U2:=κ (CrdB.below_step U1.out hb2);have M2:=κ (Mm_below M1.out hb2);have Z2:=κ (Blk.below' Z1.out hb2);have O2:=κ (own_below O1.out hb2);have S1:=κ U1.out.size;have O3:=κ (own_mono how2 S1.out);have HT3:Hid (T21 w2):=⟨M2.out.blk.cell 8,M2.out.blk.cell 9⟩;clear how2 hb2
 go_wp2_with fail
 refine hK.out _ _ HT3.out ?_;clear hK K';refine jP ?_;refine jA 12 HT3.out ?_;obtain⟨z0,z1,y0,y1⟩:=q2b Z2.out;have F3:Blk (st2 w2 gZ (.slice A1 n1 c1) (.slice A2 n2 c2)) gZ 80 (vS A1 n1 c1 A2 n2 c2):=st2_blk Z2.out
 have hfin:MadeStF cl cu w (.returned (.agg (vS A1 n1 c1 A2 n2 c2))) (st2 w2 gZ (.slice A1 n1 c1) (.slice A2 n2 c2)):=by
  have k1:=blk_st Z2.out 0 (.slice A1 n1 c1);refine madeStF_mk (own_fresh O2.out) (own_fresh O3.out) L5.out L6.out (Rd.of_own (own_st (own_st O2.out Z2.out (by decide) 0 _) k1 (by decide) 1 _)) (Rd.of_own (own_st (own_st O3.out Z2.out (by decide) 0 _) k1 (by decide) 1 _)) ?_;exact st2_below U2.out (by rw[HGZ.out];exact τ)
 have HF:=κ hfin;clear hfin;refine jV 13 fun K' hK=>?_
 go_simp;refine hK.out _ _ ?_;clear hK K';refine jP ?_;refine Δ ?_
 go_wp2_with fail
 obtain⟨e0,e1,_,_⟩:=q2b F3;clear F3;unfold st2 at e0 e1 HF;exact bodyPost_ret (v:= .agg #[.slice A1 n1 c1,.slice A2 n2 c2]) (by simp[results,Tryz.results18,go_sem,e0,e1]) rfl HF.out
end Mdx
namespace Mdt
open Bnd Flo St7 Rul6 Fcf Fown Rul7 Tl5 Gdc Bkf Bkq Bkj Wpl Mdk Mdj Mdl Mdy Mdd Mdq Mde Mdx
open Mdg hiding Mm_new q7_of
open Mdo hiding gB
def ndE:List (Int×Int):=[(-1,1000)]
def acE:List Int:=[0]
def syE:List (Int×Int×Int×Nat):=[(10,100,1000,4602678819172646912)]
theorem eN:fixF []=ndE:=by decide+kernel
theorem eA:fixA (fixF []).length []=acE:=by decide+kernel
theorem eS:fixS []=syE:=by decide+kernel
def P0:Pm:=bgnP 1 0 1 1 ndE acE syE
def P1:Pm:={P0 with off:=true}
def P2:Pm:={P1 with off:=false,ep:=1}
def oE:Od:=⟨0,0,false,10,2,0,0⟩
def P3:Pm:={P2 with bs:=P2.bs.set (shaP P2 oE) (Bks.addF P2.sh P2.wi (Mdo.gB P2.bs (shaP P2 oE)) oE P2.ep),cu:=Cpl.resU P2.cl P2.cu (gI P2.ac oE.a.toNat) (worF P2 oE).2}
theorem cfE:cfgF 1 0 1 1 ndE acE syE=0:=by
 have h:=(good_fix 0 0 0 0 [] [] [] (fun i hi=>by simp at hi)).cfg;rw[eN,show fixA ndE.length []=acE from by rw[←eN];exact eA,eS,show 1+modF 0 3=1 from by decide+kernel,show modF 0 4=0 from by decide+kernel,show 1+modF 0 6=1 from by decide+kernel,show 1+modF 0 8=1 from by decide+kernel]at h;exact h
theorem wnE:WfN ndE:=by rw[←eN];exact wfn_fix []
theorem waE:WfI acE:=by
 intro i hi;have:i=0:=by simp[acE]at hi;omega
 subst this;exact⟨by decide,by decide⟩
theorem wsE:WfS syE:=by rw[←eS];exact wfs_fix (fun i hi=>by simp at hi)
theorem vE:Vp 0 P0:=Vp_begin cfE (by rw[←eN];exact okt_fixF []) (by decide) (by decide) wsE waE
theorem dE1:doF P0 ⟨⟨4,0,0,false,0,0,0,0,0,0,0,0⟩,false,0,0⟩=(P1,(0,0,[])):=by rw[do_4 rfl (by decide+kernel) rfl];rfl
theorem dE2:doF P1 ⟨⟨0,0,0,false,10,2,0,0,0,0,0,0⟩,false,0,0⟩=(P1,(2,0,[])):=by rw[do_0 rfl (by decide+kernel) rfl];exact ord_off rfl
theorem dE3:doF P1 ⟨⟨5,0,0,false,0,0,0,0,0,0,0,0⟩,false,0,0⟩=(P2,(0,1,[])):=by rw[do_5 rfl (by decide+kernel) rfl];rfl
theorem iE:(Mdo.gB P2.bs (shaP P2 oE)).sh+P2.sh*(Mdo.gB P2.bs (shaP P2 oE)).ca=0:=by decide+kernel
theorem dE4:doF P2 ⟨⟨0,0,0,false,10,2,0,0,0,0,0,0⟩,false,0,0⟩=(P3,(0,0,[(0,0)])):=by
 rw[do_0 rfl (by decide+kernel) rfl];show ordF P2 oE=_;rw[ord_new (p:=P2) (o:=oE) rfl (by decide+kernel) (by decide+kernel) (by decide+kernel),iE]
 rfl
theorem uE:P3.cu=[20]:=by decide+kernel
theorem cE:P3.cl.length=1:=by decide+kernel
theorem told9_any(w:World):Calls Tryz.prog 10 #[] w (MadeB true w):=by
 have q1:1+modF 0 3=1:=by decide+kernel
 have q2:modF 0 4=0:=by decide+kernel
 have q3:1+modF 0 6=1:=by decide+kernel
 have q4:1+modF 0 8=1:=by decide+kernel
 have FX:=fun W=>fix5_any 0 0 0 0 none none none 0 0 0 [] [] [] W Rd.nil Rd.nil Rd.nil (fun i hi=>by simp at hi) (fun i hi=>by simp at hi) (fun i hi=>by simp at hi) (by decide) (by decide) (by decide)
 rw[eA,eN,eS,q1,q2,q3,q4]at FX;clear q1 q2 q3 q4;have TX:=fun W A B C c d f h1 h2 h3=>to5_any 1 0 1 1 A B C c d f ndE acE syE W h1 h2 h3 wnE (by decide) (by decide) (by decide)
 unfold MadeCf at FX TX;rw[show ndE.length=1 from rfl,show acE.length=1 from rfl,show syE.length=1 from rfl]at FX TX
 go_enter Tryz.func10,Tryz.ntmps10
 go_wp2_with fail
 refine(FX _).mono ?_;rintro e w1 ⟨A1,B1,C1,c1,d1,f1,rfl,hn1,hu1,hs1,hb1⟩;have b1:=κ hb1;clear hb1 FX
 go_wp2_with fail
 refine(TX _ _ _ _ _ _ _ hn1 hu1 hs1).mono ?_;rintro e w2 ⟨A2,B2,C2,c2,d2,f2,rfl,hn2,hu2,hs2,hb2⟩;have b2:=κ (CrdB.below_step b1.out hb2);clear b1 hn1 hu1 hs1 hb2 TX;have U2:=β w2 (.cells (vC 1 0 1 1 A2 1 c2 B2 1 d2 C2 1 f2) 40);have v2:=κ (Blk.fresh w2 40 (vC 1 0 1 1 A2 1 c2 B2 1 d2 C2 1 f2));have b3:=κ (CrdB.below_step b2.out U2);have N3:=θ hn2 U2;have R3:=η hu2 U2;have S3:Hid (Smb (w2.alloc (.cells (vC 1 0 1 1 A2 1 c2 B2 1 d2 C2 1 f2) 40)) (w2.alloc (.cells (vC 1 0 1 1 A2 1 c2 B2 1 d2 C2 1 f2) 40)).heap.size C2 syE):=Rd.below' hs2 U2 U2.size;clear hn2 hu2 hs2 U2 b2
 go_upto_region 2 with fail
 generalize w2.alloc (.cells (vC 1 0 1 1 A2 1 c2 B2 1 d2 C2 1 f2) 40)=w3 at b3 v2 N3 R3 S3 ⊢;generalize w2.heap.size=gK at v2 ⊢;obtain⟨e0,e1,e2,e3,e4,e5,e6⟩:=c7_of v2.out
 go_wp2_with fail
 refine(mbegin_any 1 0 1 1 A2 B2 C2 1 1 1 c2 d2 f2 ndE acE syE _ rfl rfl rfl N3 R3 S3 wnE (by decide) (by decide) (by decide)).mono ?_;rintro e w4 ⟨hb4,_,hmk⟩;obtain⟨g,q,rfl,hM4,hP4⟩:=hmk cfE;have B4:=κ (CrdB.below_step b3.out hb4);have HBS:=κ b3.out.size;have M4:=κ hM4;have P4:Hid (plO q=P0):=hP4;clear e0 e1 e2 e3 e4 e5 e6 hb4 hmk hM4 hP4 N3 R3 S3 v2;generalize hbs:w3.heap.size=base at M4 HBS;clear hbs b3
 go_upto_region 5 with fail
 go_wp2_with fail
 refine(Rul3.order_any 0 0 false 10 2 0 0 _).mono ?_;rintro e w5 ⟨rfl,hb5⟩;have U5:=β w5 (.cells (vP 0 0 0 false 10 2 0 0 0 0 0 0 false 0 0) 64);have U5':=CrdB.below_step hb5 U5;have O5:=κ (Blk.fresh w5 64 (vP 0 0 0 false 10 2 0 0 0 0 0 0 false 0 0));have B5:=κ (CrdB.below_step B4.out U5');have M5:=κ (Mm_below M4.out U5');clear hb5 U5 U5' B4 M4
 go_upto_region 6 with fail
 generalize w5.alloc (.cells (vP 0 0 0 false 10 2 0 0 0 0 0 0 false 0 0) 64)=w6 at O5 B5 M5 ⊢;generalize w5.heap.size=gO at O5 ⊢;have V5:Hid (Vp 0 (plO q)):=by rw[P4.out];exact vE
 have D5:=do_e base g 0 q 4 0 0 0 0 0 0 0 0 0 0 0 0 false false w w6 M5 V5 (by decide) B5.out HBS.out ⟨by decide,by decide⟩ ⟨by decide,by decide⟩ ⟨by decide,by decide⟩ (by decide) (by decide) ⟨by decide,by decide⟩ (by decide) (by decide) (by rw[P4.out];exact dE1) (P:=P1) (cd:=0) (id:=0) (outs:=[])
 go_wp2_with fail
 refine D5.mono ?_;rintro e w7 ⟨q7,A7,n7,c7,rfl,hn7,hO7,_,hM7,hP7,hV7,hB7,hA7,hK7⟩;have O7:=κ (blk_do O5.out M5.out (by decide) (by decide) hK7);have M7:=κ hM7;have P7:=κ hP7;have V7:=κ hV7;have B7:=κ hB7;clear hn7 hO7 hM7 hP7 hV7 hB7 hA7 hK7 O5 M5 P4 V5 B5 D5
 go_upto_region 7 with fail
 obtain⟨o0,o1,o2,o3,o4,o5,o6,o7,o8,o9,o10,o11,o12,o13,o14⟩:=q15_of O7.out;have D7:=do_e base g 1 q7 0 0 0 10 2 0 0 0 0 0 0 0 0 false false w w7 M7 V7 (by decide) B7.out HBS.out ⟨by decide,by decide⟩ ⟨by decide,by decide⟩ ⟨by decide,by decide⟩ (by decide) (by decide) ⟨by decide,by decide⟩ (by decide) (by decide) (by rw[P7.out];exact dE2) (P:=P1) (cd:=2) (id:=0) (outs:=[])
 go_wp2_with fail
 refine D7.mono ?_;rintro e w8 ⟨q8,A8,n8,c8,rfl,hn8,hO8,_,hM8,hP8,hV8,hB8,hA8,hK8⟩;have hn8':n8=0:=hn8;subst hn8';have O8:=blk_do O7.out M7.out (by decide) (by decide) hK8;have U8:=β w8 (.cells (vI 2 0) 56);have X8:=κ (Blk.fresh w8 56 (vI 2 0));have O9:=κ (Blk.below' O8 U8);have M9:=κ (Mm_below hM8 U8);have P9:=κ hP8;have V9:=κ hV8;have B9:=κ (CrdB.below_step hB8 U8);clear o0 o1 o2 o3 o4 o5 o6 o7 o8 o9 o10 o11 o12 o13 o14 hn8 hO8 hM8 hP8 hV8 hB8 hA8 hK8 O8 U8 O7 M7 P7 V7 B7 D7
 go_upto_region 8 with fail
 generalize w8.alloc (.cells (vI 2 0) 56)=w9 at X8 O9 M9 B9 ⊢;generalize w8.heap.size=gX at X8 ⊢;have D9:=do_e base g 2 q8 5 0 0 0 0 0 0 0 0 0 0 0 0 false false w w9 M9 V9 (by decide) B9.out HBS.out ⟨by decide,by decide⟩ ⟨by decide,by decide⟩ ⟨by decide,by decide⟩ (by decide) (by decide) ⟨by decide,by decide⟩ (by decide) (by decide) (by rw[P9.out];exact dE3) (P:=P2) (cd:=0) (id:=1) (outs:=[])
 go_wp2_with fail
 refine D9.mono ?_;rintro e w10 ⟨q10,A10,n10,c10,rfl,hn10,hO10,_,hM10,hP10,hV10,hB10,hA10,hK10⟩;have O10:=blk_do O9.out M9.out (by decide) (by decide) hK10;have X10:=blk_do X8.out M9.out (by decide) (by decide) hK10;have U10:=β w10 (.cells (vI 0 1) 56);have Y11:=κ (Blk.fresh w10 56 (vI 0 1));have O11:=κ (Blk.below' O10 U10);have X11:=κ (Blk.below' X10 U10);have M11:=κ (Mm_below hM10 U10);have P11:=κ hP10;have V11:=κ hV10;have B11:=κ (CrdB.below_step hB10 U10);clear hn10 hO10 hM10 hP10 hV10 hB10 hA10 hK10 O10 X10 U10 O9 X8 M9 P9 V9 B9 D9
 go_upto_region 9 with fail
 generalize w10.alloc (.cells (vI 0 1) 56)=w11 at Y11 O11 X11 M11 B11 ⊢;generalize w10.heap.size=gY at Y11 ⊢;obtain⟨o0,o1,o2,o3,o4,o5,o6,o7,o8,o9,o10,o11,o12,o13,o14⟩:=q15_of O11.out;have D11:=do_e base g 3 q10 0 0 0 10 2 0 0 0 0 0 0 0 0 false false w w11 M11 V11 (by decide) B11.out HBS.out ⟨by decide,by decide⟩ ⟨by decide,by decide⟩ ⟨by decide,by decide⟩ (by decide) (by decide) ⟨by decide,by decide⟩ (by decide) (by decide) (by rw[P11.out];exact dE4) (P:=P3) (cd:=0) (id:=0) (outs:=[(0,0)])
 go_wp2_with fail
 refine D11.mono ?_;rintro e w12 ⟨q12,A12,n12,c12,rfl,hn12,hO12,_,hM12,hP12,hV12,hB12,hA12,hK12⟩;have hn12':n12=1:=hn12;subst hn12';have X12:=blk_do X11.out M11.out (by decide) (by decide) hK12;have Y12:=blk_do Y11.out M11.out (by decide) (by decide) hK12;have U12:=β w12 (.cells (vI 0 0) 56);have Z13:=κ (Blk.fresh w12 56 (vI 0 0));have X13:=κ (Blk.below' X12 U12);have Y13:=κ (Blk.below' Y12 U12);have M13:=κ (Mm_below hM12 U12);have P13:=κ hP12;have B13:=κ (CrdB.below_step hB12 U12);have W13:=θ hO12 U12;clear o0 o1 o2 o3 o4 o5 o6 o7 o8 o9 o10 o11 o12 o13 o14 hn12 hO12 hM12 hP12 hV12 hB12 hA12 hK12 X12 Y12 U12 O11 X11 Y11 M11 P11 V11 B11 D11
 go_upto_region 10 with fail
 generalize w12.alloc (.cells (vI 0 0) 56)=w13 at Z13 X13 Y13 M13 B13 W13 ⊢;generalize w12.heap.size=gZ at Z13 ⊢;have C13:=credit_any base g q12 w13 M13 (by show(plO q12).cl.length≤_;rw[P13.out,cE];decide) (by show(plO q12).cu.length≤_;rw[P13.out,uE];decide);rw[show q12.cu=[20] from by show(plO q12).cu=_;rw[P13.out,uE]]at C13
 go_wp2_with fail
 refine C13.mono ?_;rintro e w14 ⟨A14,c14,A15,c15,rfl,_,hu14,hb14,_,_⟩;have X14:=κ (Blk.below' X13.out hb14);have Y14:=κ (Blk.below' Y13.out hb14);have Z14:=κ (Blk.below' Z13.out hb14);have B14:=κ (CrdB.below_step B13.out hb14);have W14:Nds w14 w14.heap.size A12 [(0,0)]:=Rd.below' W13.out hb14 hb14.size;simp only[cE,List.length_cons,List.length_nil];have hfd: ∀(X Y:Option Addr) (n m c d:Nat) (W:World),(Instr.field 80 (.agg (vS X n c Y m d)) 1).run Tryz.prog W= .ok (.slice Y m d) W:=fun _ _ _ _ _ _ _=>by kernel_rfl
 clear C13 M13 P13 X13 Y13 Z13 B13 W13 hb14;obtain⟨by',oy,hA12,hly,hcy⟩:=Rd.at W14 (by simp[nds,ndV]);subst hA12;have y0:=hcy 0 (ι 0) (by simp[nds,ndV]);simp only[Nat.add_zero]at y0;obtain⟨bu,ou,hA15,hlu,hcu⟩:=Rd.at hu14 (by simp[ints]);subst hA15;have u0':=hcu 0 (ι 20) (by simp[ints]);simp only[Nat.add_zero]at u0';clear hcy hcu W14 hu14;obtain⟨x0,x1,_,_⟩:=q2b X14.out;obtain⟨z0,z1,_,_⟩:=q2b Y14.out;obtain⟨v0,v1,_,_⟩:=q2b Z14.out
 go_upto_region 11 with fail
 go_wp2_with fail
 go_ret;exact madeB_mk rfl B14.out
end Mdt
end Go.Proofs.YtfbajlcljfjbkaaGreat
