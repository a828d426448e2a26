/- The law, walked in each of its turns: it returns true, and its arguments read as they did. No condition of ours. Texts side by side. -/
import Derived.Test.YtfbajlcljfjbkaaGreatUdaq
import Derived.Test.YtfbajlcljfjbkaaGreatUdav
import Derived.Test.YtfbajlcljfjbkaaGreatUdax
import Derived.Test.YtfbajlcljfjbkaaGreatUday
import Derived.Test.YtfbajlcljfjbkaaGreatUdbe
set_option linter.unusedVariables false
set_option linter.unusedSimpArgs false
set_option maxRecDepth 100000
set_option maxHeartbeats 16000000
namespace Go.Proofs.YtfbajlcljfjbkaaGreat
open Kap Abv Go.ChangeShapes Go.WideShapes Go.ChangeAt Go.RowKit Mem Tre Ref3 Law3 Fix3 Opn Bnd Flo Cfg Crd CrdB CrdC Rr4 Cfr Rul5 St7 Rul6 Fcf Fown Rul7 Tl5 Gdc Ocs Bkp Bks Bkf Bcl Dlk Stk Apt Bko Bku Bka Bkc Bkq Wpl Mdd Mdq Mde Rmp Lac Lst Go.Joins Go.Deep Mdp
namespace modelActs
open Mdz (Mz FarE FzB Mz_of FarE_of FarE_new)
open Mds (Pm plO)
open Mdg (bgnP mbegin_any)
open Rmg (rmbegin_any)
open Rmd (rmdo_any)
open Mdt (told9_any)
open Mdv (bookF book_any)
open Lro (Rw Frs V16 WfR)
open Lfx (fix9_any)
open Lou (op_any c15_of)
open Lsa (same9_any)
open Lxt (outs_any)
variable {q:Mq} {base m:Nat} {P:Pm} {w:World}
theorem own:ownKnob Tryz.prog.godebug=none:=by kernel_rfl
theorem laidOut:laidOutB Tryz.prog=true:=by kernel_rfl
theorem few_of(h:plO q=P)(v:Vp m P)(hm:m≤900): ∀k,k<q.xs.length→FewB (gX q.xs k).b:=by
 subst h;exact fun k hk=>((v.bk _ (gX_mem hk)).1.1).few (by omega)
theorem pl_len{q2:Mq}(h:plO q=plO q2):q.xs.length=q2.xs.length∧q.cl.length=q2.cl.length∧q.cu.length=q2.cu.length:=by
 have h1:=congrArg (fun p:Pm=>p.bs.length) h;have h2:=congrArg (fun p:Pm=>p.cl.length) h;have h3:=congrArg (fun p:Pm=>p.cu.length) h;exact⟨by simpa[plO] using h1,h2,h3⟩
structure Sz(m:Nat)(P:Pm)(qm qr:Mq):Prop where
 vm:Mdo.Vq m qm
 om:Mdj.Vo qm
 vr:Mdo.Vq m qr
 or:Mdj.Vo qr
 pe:plO qm=plO qr
 nm:qm.nb≤1000
 nr:qr.nb≤1000
 fm: ∀k,k<qm.xs.length→FewB (gX qm.xs k).b
 fr: ∀k,k<qr.xs.length→FewB (gX qr.xs k).b
 l1:qr.n1≤1000
 l2:qr.n2≤1000
 ep:0≤qm.ep∧qm.ep≤1000000000
 er:0≤qr.ep∧qr.ep≤1000000000
 nb:(qm.nb:Int)=P.sh
theorem rq_of{g:Nat}(h:Rm base w g q)(hv:Vp m (plO q)):Mdo.Vq m q∧Mdj.Vo q:=by
 have e2:(plO q).ac.length=q.al:=h.l2.symm;refine⟨⟨by rw[h.l1];exact hv.n,by rw[h.l2];exact hv.a,by rw[h.l2];exact hv.a1,by rw[h.l3];exact hv.s,hv.ws,hv.wa,hv.sh,?_,hv.wi,fun i hi=>?_,hv.cr⟩,fun i hi e he=>?_⟩
 ·have h1:=hv.nb;rw[show(plO q).bs.length=q.nb from by show(q.xs.map Bx.b).length=_;rw[List.length_map];exact h.l4.symm]at h1;exact h1
 ·have h1:=(hv.bk _ (gX_mem hi)).1;rw[e2]at h1;exact h1
 ·have h1:=(hv.bk _ (gX_mem hi)).2 e he;rw[e2]at h1;exact h1
theorem sz_of{w0:World}{base' gm gr bm br:Nat}{qm qr:Mq}(h:Iv w0 w base base' gm gr bm br P P qm qr)(v:Vp m P)(hm:m≤900):Sz m P qm qr:=by
 have vm:=Vq_of h.M (by rw[h.pm];exact v);have vr:=rq_of h.R (by rw[h.pr];exact v);have hc:=v.cr.few;have hcu:=v.cr.len;have e1:qr.cl.length=P.cl.length:=by rw[←h.pr];rfl
 have e2:qr.cu.length=P.cu.length:=by rw[←h.pr];rfl
 have hep:=v.ep;have e3:qm.ep=P.ep:=by rw[←h.pm];rfl
 have e4:qr.ep=P.ep:=by rw[←h.pr];rfl
 have e5:qm.sh=P.sh:=by rw[←h.pm];rfl
 have s1:=vm.1.nb;have s2:=vm.1.sh;have s3:=vr.1.nb;have s4:=vr.1.sh;exact⟨vm.1,vm.2,vr.1,vr.2,h.pm.trans h.pr.symm,by omega,by omega,few_of h.pm v hm,few_of h.pr v hm,by rw[h.R.l5,e1];omega,by rw[h.R.l6,e2,hcu];omega,by rw[e3];omega,by rw[e4];omega,by rw[s1,e5]⟩
theorem inner(sh0 wi0 ra0 ta0:Int)(A B C:Option Addr)(N M K c d f:Nat)(nd:List (Int×Int))(ac:List Int)(sy:List (Int×Int×Int×Nat))(Al:Option Addr)(nL cL:Nat)(w:World)
  (hN:Hid (N=nd.length))(hM:Hid (M=ac.length))(hK:Hid (K=sy.length))(hn9:(nd.length:Int)≤4611686018427387904)(ha9:(ac.length:Int)≤4611686018427387904)(hk9:(sy.length:Int)≤4398046511104)
  (hl:Hid (Nds w w.heap.size A nd))(hu:Hid (Ris w w.heap.size B ac))(hs:Hid (Btb w w.heap.size C sy))(hw:Hid (WfN nd))(hwa:Hid (WfI ac))(hws:Hid (WfS sy))(hfr:Hid (Frs w w.heap.size Al nL)):
  Calls Tryz.prog 3 #[.agg #[.int .i64 sh0,.int .i64 wi0,.int .i64 ra0,.int .i64 ta0,.slice A N c,.slice B M d,.slice C K f],.slice Al nL cL] w (MadeB true w):=by
 have U0:=κ (β w (.cells (vC sh0 wi0 ra0 ta0 A N c B M d C K f) 26));have K0:=κ (Blk.fresh w 26 (vC sh0 wi0 ra0 ta0 A N c B M d C K f))
 go_enter Tryz.func3,Tryz.ntmps3
 go_upto_region 1 with fail
 generalize w.alloc (.cells (vC sh0 wi0 ra0 ta0 A N c B M d C K f) 26)=w0 at U0 K0 ⊢;generalize w.heap.size=g0 at K0 ⊢;obtain⟨k0,k1,k2,k3,k4,k5,k6⟩:=c7_of K0.out
 go_wp2_with fail
 refine(ref_any sh0 wi0 ra0 ta0 A B C c d f N M K nd ac sy _ hN hM hK (Rd.below' hl.out U0.out U0.out.size) (Rd.below' hu.out U0.out U0.out.size) (Rd.below' hs.out U0.out U0.out.size) (by rw[hK.out];exact hk9)).mono ?_;rintro e w1 ⟨A1,B1,C1,c1,d1,f1,rfl,hn1,hu1,hs1,hb1⟩;have U1:=κ (CrdB.below_step U0.out hb1);have HN:=κ hn1;have HU:=κ hu1;have HS:=κ hs1;clear k0 k1 k2 k3 k4 k5 k6 K0 U0 hn1 hu1 hs1 hb1
 go_wp2_with fail
 refine(fixd_any sh0 wi0 ra0 ta0 A1 B1 C1 c1 d1 f1 nd ac sy _ HN HU HS hw hwa hws hn9 ha9 (by omega)).mono ?_;rintro e w2 ⟨sh,wi,ra,ta,nd2,ac2,sy2,hgood,hokt,A2,B2,C2,c2,d2,f2,rfl,hn2,hu2,hs2,hb2⟩;obtain⟨nl,hnl⟩:=ν nd2.length;obtain⟨al,hal⟩:=ν ac2.length;obtain⟨sl,hsl⟩:=ν sy2.length;have L1:=κ hnl;have L2:=κ hal;have L3:=κ hsl;have l1:nl≤10:=by rw[hnl];exact hgood.n2
 have l2:al≤5:=by rw[hal];exact hgood.a2
 have l3:sl≤3:=by rw[hsl];exact hgood.s2
 obtain⟨sN,hsN⟩: ∃sN:Nat,sh=sN:=⟨sh.toNat,by have:=hgood.h1;omega⟩;have hsN9:sN≤3:=by have:=hgood.h2;omega
 have HCF:=κ hgood.cfg;have V0:=κ (Vp_begin hgood.cfg hokt hgood.n1 (by have:=hgood.n2;omega) hgood.ws hgood.wa);have HWN:=κ hgood.wn;subst hsN;simp only[←hnl,←hal,←hsl];have V2:=β w2 (.cells (vC (sN:Int) wi ra ta A2 nl c2 B2 al d2 C2 sl f2) 30);have K2:=κ (Blk.fresh w2 30 (vC (sN:Int) wi ra ta A2 nl c2 B2 al d2 C2 sl f2));have U2:=κ (CrdB.below_step (CrdB.below_step U1.out hb2) V2);have N2:=θ hn2 V2;have R2:=η hu2 V2;have S2:Hid (Smb (w2.alloc (.cells (vC (sN:Int) wi ra ta A2 nl c2 B2 al d2 C2 sl f2) 30)) (w2.alloc (.cells (vC (sN:Int) wi ra ta A2 nl c2 B2 al d2 C2 sl f2) 30)).heap.size C2 sy2):=Rd.below' hs2 V2 V2.size;clear HN HU HS U1 hb2 hn2 hu2 hs2 V2 hnl hal hsl hgood hokt
 go_upto_region 2 with fail
 generalize w2.alloc (.cells (vC (sN:Int) wi ra ta A2 nl c2 B2 al d2 C2 sl f2) 30)=w3 at K2 U2 N2 R2 S2 ⊢;generalize w2.heap.size=gC at K2 ⊢;obtain⟨k0,k1,k2,k3,k4,k5,k6⟩:=c7_of K2.out;have TX:=to5_any (sN:Int) wi ra ta A2 B2 C2 c2 d2 f2 nd2 ac2 sy2 w3 N2 R2 S2 HWN (by rw[←L1.out];omega) (by rw[←L2.out];omega) (by rw[←L3.out];omega);unfold MadeCf at TX;rw[←L1.out,←L2.out,←L3.out]at TX
 go_wp2_with fail
 refine TX.mono ?_;rintro e w4 ⟨A4,B4,C4,c4,d4,f4,rfl,n4,u4,s4,hb4⟩;have K4:=κ (Blk.below' K2.out hb4);have U4:=κ (CrdB.below_step U2.out hb4);have N4:=θ N2.out hb4;have R4:=η R2.out hb4;have S4:Hid (Smb w4 w4.heap.size C2 sy2):=Rd.below' S2.out hb4 hb4.size;have NN:=κ n4;have UU:=κ u4;have SS:=κ s4;clear k0 k1 k2 k3 k4 k5 k6 TX n4 u4 s4 hb4 K2 U2 N2 R2 S2
 go_wp2_with fail
 refine(mbegin_any (sN:Int) wi ra ta A4 B4 C4 nl al sl c4 d4 f4 nd2 ac2 sy2 _ L1 L2 L3 NN UU SS HWN (by omega) (by omega) (by omega)).mono ?_;rintro e w5 ⟨hb5,_,hmk⟩;obtain⟨gm,qm,rfl,hM5,hP5⟩:=hmk HCF.out;have M5:=κ hM5;have P5:=κ hP5;have K5:=κ (Blk.below' K4.out hb5);have U5:=κ (CrdB.below_step U4.out hb5);have B5:=κ hb5;have N5:=θ N4.out hb5;have R5:=η R4.out hb5;have S5:Hid (Smb w5 w5.heap.size C2 sy2):=Rd.below' S4.out hb5 hb5.size;clear hb5 hmk hM5 hP5 K4 NN UU SS
 go_upto_region 3 with fail
 obtain⟨k0,k1,k2,k3,k4,k5,k6⟩:=c7_of K5.out
 go_wp2_with fail
 refine(rmbegin_any sN wi ra ta A2 B2 C2 nl al sl c2 d2 f2 nd2 ac2 sy2 _ L1 L2 L3 N5 R5 S5 (by omega) (by omega) (by omega)).mono ?_;rintro e w6 ⟨gr,qr,rfl,hR6,hP6,hcq,hb6,hz6⟩;obtain⟨bm,br,hiv⟩:=iv_start (w0:=w) M5.out hb6 hR6 hz6 N4.out R4.out S4.out P5.out hP6 V0.out hcq (CrdB.below_step U5.out hb6) U4.out.size B5.out.size;have K6:=κ (Blk.below' K5.out hb6);have IV6:=κ hiv;have HSH:Hid ((bgnP (sN:Int) wi ra ta nd2 ac2 sy2).sh=(sN:Int)):=rfl;clear k0 k1 k2 k3 k4 k5 k6 hR6 hP6 hcq hb6 hz6 hiv M5 P5 K5 U5 B5 N5 R5 S5 N4 R4 S4 HWN HCF L1 L2 L3;generalize bgnP (sN:Int) wi ra ta nd2 ac2 sy2=P0 at V0 IV6 HSH;generalize w4.heap.size=base at IV6;generalize w5.heap.size=base' at IV6
 go_upto_region 4 with fail
 go_wp2_with fail
 refine(told9_any _).mono ?_;rintro e w7 ⟨rfl,hb7⟩;have K7:=κ (Blk.below' K6.out hb7);have IV7:=κ (IV6.out.below hb7);have SZ7:=κ (sz_of IV7.out V0.out (by omega));clear hb7 K6 IV6
 go_wp2_with fail
 refine(same9_any base base' gm gr qm qr _ (κ IV7.out.M) (κ IV7.out.R) (κ SZ7.out.pe) SZ7.out.nm SZ7.out.nr (κ SZ7.out.fr) SZ7.out.l1 SZ7.out.l2).mono ?_;rintro e w8 ⟨rfl,hb8⟩;have K8:=κ (Blk.below' K7.out hb8);have IV8:=κ (IV7.out.below hb8);clear hb8 K7 IV7 SZ7
 go_wp2_with fail
 go_loopg [9] (min nL 60) (fun g9 s9 w'=> ∃(i:Nat) (P:Pm) (qm qr:Mq),i+g9=min nL 60∧s9= ι i∧Hid (Vp i P)∧Hid (P.sh=(sN:Int))∧Hid (Iv w w' base base' gm gr bm br P P qm qr)∧Hid (Blk w' gC 30 (vC (sN:Int) wi ra ta A2 nl c2 B2 al d2 C2 sl f2)))
 case atStart=>exact⟨0,P0,qm,qr,by omega,rfl,V0,HSH,IV8,K8⟩
 case round=>
  clear V0 HSH IV8 K8;obtain⟨i,P,qm,qr,hi,rfl,VP,HSH,IV,KC⟩:=hrel;have SZ:=κ (sz_of IV.out VP.out (by omega));by_cases hlt:i<min nL 60
  ·obtain⟨g,rfl⟩: ∃g9,gk=g9+1:=⟨gk-1,by omega⟩;have hiL:i<nL:=by omega
   have t0:decide ((i:Int)<(nL:Int))=true:=by simp;omega
   have t1:decide ((i:Int)<60)=true:=by simp;omega
   have t2:decide (i<nL)=true:=by simp;omega
   obtain⟨lb,lo,rr,hAl,hlb,hwr,hv16⟩:=hfr.out i hiL;subst hAl;obtain⟨⟨k,a,s,x,p,q,n,t,i9,y,z,v⟩,wh,sw,sx,ex⟩:=rr;obtain⟨⟨w0',w1',w2',w3',w4',w5',w6',w7',w8',w9',w10'⟩,w11',w12',w13'⟩:=hwr;simp only at w0' w1' w2' w3' w4' w5' w6' w7' w8' w9' w10' w11' w12' w13';have HWP:=κ w3';have HWQ:=κ w4';have HWT:=κ w6';have HWY:=κ w8'.2;have HWV:=κ w10'.2;have HWX:=κ w12';have HWE:Hid (-9223372036854775808≤ex∧ex≤9223372036854775807):=w13';have hwh:=w11'.2;clear w0' w1' w2' w3' w4' w5' w6' w7' w8' w9' w10' w11' w12' w13';have hq: ∀(o:Nat) (v:Value),w.cell? (α lb o)=some v→wr.cell? (α lb o)=some v:=fun o v hc=>by rw[World.cell?_of_block (IV.out.b.block lb hlb)];exact hc
   obtain⟨v0,v1,v2,v3,v4,v5,v6,v7,v8,v9,v10,v11,v12,v13,v14,v15⟩:=hv16;have v0:=hq _ _ v0;have v1:=hq _ _ v1;have v2:=hq _ _ v2;have v3:=hq _ _ v3;have v4:=hq _ _ v4;have v5:=hq _ _ v5;have v6:=hq _ _ v6;have v7:=hq _ _ v7;have v8:=hq _ _ v8;have v9:=hq _ _ v9;have v10:=hq _ _ v10;have v11:=hq _ _ v11;have v12:=hq _ _ v12;have v13:=hq _ _ v13;have v14:=hq _ _ v14;have v15:=hq _ _ v15;clear hq;simp only at v0 v1 v2 v3 v4 v5 v6 v7 v8 v9 v10 v11 v12 v13 v14 v15
   go_wp2_with fail
   refine(fix9_any base' gr qr k a s p q n t i9 y z v wh sx ex x sw _ (κ IV.out.R) SZ.out.nr (κ (fun k hk=>(SZ.out.fr k hk).ol)) hwh).mono ?_;rintro e w10 ⟨j,rfl,hb10⟩;have X10:=β w10 (.cells (vP k a s x p q n t j y z v sw sx ex) 51);have O11:=κ (Blk.fresh w10 51 (vP k a s x p q n t j y z v sw sx ex));have IV11:=κ ((IV.out.below hb10).below X10);have KC11:=κ (Blk.below' (Blk.below' KC.out hb10) X10);clear v0 v1 v2 v3 v4 v5 v6 v7 v8 v9 v10 v11 v12 v13 v14 v15 hb10 X10 IV KC t0 t1 t2
   go_upto_region 10 with fail
   generalize w10.alloc (.cells (vP k a s x p q n t j y z v sw sx ex) 51)=w11 at O11 IV11 KC11 ⊢;generalize w10.heap.size=gO at O11 ⊢;obtain⟨o0,o1,o2,o3,o4,o5,o6,o7,o8,o9,o10,o11,o12,o13,o14⟩:=c15_of O11.out
   go_wp2_with fail
   refine(op_any k a s p q n t j y z v sx ex x sw _).mono ?_;rintro e w12 ⟨rfl,hb12⟩;have O12:=κ (Blk.below' O11.out hb12);have KC12:=κ (Blk.below' KC11.out hb12);have IV12:=κ (IV11.out.below hb12);clear o0 o1 o2 o3 o4 o5 o6 o7 o8 o9 o10 o11 o12 o13 o14 hb12 O11 KC11 IV11;have VP1:=κ (Vp_do VP.out ⟨⟨k,a,s,x,p,q,n,t,j,y,z,v⟩,sw,sx,ex⟩ HWT.out HWP.out HWQ.out);have HSH1:Hid ((doF P ⟨⟨k,a,s,x,p,q,n,t,j,y,z,v⟩,sw,sx,ex⟩).1.sh=(sN:Int)):=by show _=_;rw[do_sh];exact HSH.out
   have D12:=do_any base gm i qm k a s p q n t j y z v sx ex x sw w12 (κ IV12.out.M) (κ SZ.out.vm) (by omega) (κ SZ.out.om) SZ.out.ep HWP.out HWQ.out HWY.out HWV.out HWX.out HWE.out.1 HWE.out.2;have E12:=fun(W:World) (hR:Hid (Rm base' W gr qr))=>rmdo_any base' gr i qr k a s p q n t j y z v sx ex x sw W hR (κ SZ.out.vr) (by omega) (κ SZ.out.or) SZ.out.er HWP.out HWQ.out HWY.out HWV.out HWX.out HWE.out.1 HWE.out.2 (κ IV12.out.cq) (fun w0=>Wry.rright_any ⟨k,a,s,x,p,q,n,t,j,y,z,v⟩ w0)
   rw[IV12.out.pm]at D12;simp only[IV12.out.pr]at E12;have HOL:=do_outs VP.out (by omega) ⟨⟨k,a,s,x,p,q,n,t,j,y,z,v⟩,sw,sx,ex⟩;generalize doF P ⟨⟨k,a,s,x,p,q,n,t,j,y,z,v⟩,sw,sx,ex⟩=RES at VP1 HSH1 HOL D12 E12;obtain⟨P1,cd,id,outs⟩:=RES;simp only at VP1 HSH1 HOL D12 E12
   go_wp2_with fail
   refine D12.mono ?_;rintro e w13 ⟨qm1,Ao,no,co,rfl,hno,hO13,hf13,hM13,hP13,hA13,hK13,hZ13⟩;have IV13:=IV12.out.mdo hM13 hP13 hA13 hK13 hZ13;have O13:=blk_do O12.out IV12.out.M (by decide) (by decide) hK13;have KC13:=blk_do KC12.out IV12.out.M (by decide) (by decide) hK13;have LT13:=IV12.out.lt;have HNO:=κ hno;have HF13:=κ hf13;have X14:=β w13 (.cells (vI cd id) 56);have A14:=κ (Blk.fresh w13 56 (vI cd id));have IV14:=κ (IV13.below X14);have O14:=κ (Blk.below' O13 X14);have KC14:=κ (Blk.below' KC13 X14);have NO14:=θ hO13 X14
   have FAR:Hid (Far gr qr.Ab Ao (Mem.nds outs)):= .inr fun a ha=>by
    have h1:=HF13.out a ha;refine⟨by omega,fun b hb=>?_⟩;rw[IV12.out.ar]at hb;cases hb;show a.block≠br;omega
   clear hno hO13 hf13 hM13 hP13 hA13 hK13 hZ13 IV13 O13 KC13 LT13 X14 D12 O12 KC12 IV12 HF13
   go_upto_region 11 with fail
   generalize w13.alloc (.cells (vI cd id) 56)=w14 at A14 IV14 O14 KC14 NO14 ⊢;generalize w13.heap.size=gA at A14 ⊢;obtain⟨o0,o1,o2,o3,o4,o5,o6,o7,o8,o9,o10,o11,o12,o13,o14⟩:=c15_of O14.out
   go_wp2_with fail
   refine(E12 _ (κ IV14.out.R)).mono ?_;rintro e w15 ⟨qr1,Ap,np,cp,rfl,hnp,hO15,hf15,hM15,hP15,hA15,hK15,hZ15,hC15⟩;have IV15:=IV14.out.rdo hM15 hP15 hA15 hK15 hZ15 hC15;have KC15:=blk_dor KC14.out IV14.out.R (by decide) (by decide) hK15;have A15:=blk_dor A14.out IV14.out.R (by decide) (by decide) hK15;have NO15:Nds w15 w15.heap.size Ao outs:=rd_kp NO14.out hK15 FAR.out;have X16:=β w15 (.cells (vI cd id) 67);have B16:=κ (Blk.fresh w15 67 (vI cd id));have IV16:=κ (IV15.below X16);have A16:=κ (Blk.below' A15 X16);have KC16:=κ (Blk.below' KC15 X16);have NO16:=θ NO15 X16;have NP16:=θ hO15 X16;have hnp':=hnp.trans HNO.out.symm;subst hnp';clear o0 o1 o2 o3 o4 o5 o6 o7 o8 o9 o10 o11 o12 o13 o14 hnp hO15 hf15 hM15 hP15 hA15 hK15 hZ15 hC15 IV15 KC15 A15 NO15 X16 E12 A14 IV14 O14 KC14 NO14 FAR SZ VP
   go_upto_region 12 with fail
   generalize w15.alloc (.cells (vI cd id) 67)=w16 at B16 IV16 A16 KC16 NO16 NP16 ⊢;generalize w15.heap.size=gB at B16 ⊢;obtain⟨a0,a1,_,_⟩:=Mds.q2b A16.out;obtain⟨b0,b1,_,_⟩:=Mds.q2b B16.out;have e1:(cd != cd)=false:=by simp
   have e2:(id != id)=false:=by simp
   have e3:(cd==cd)=true:=by simp
   have e4:(id==id)=true:=by simp
   have SZ1:=κ (sz_of IV16.out VP1.out (by omega));have hno9:np≤1000000:=by rw[HNO.out];omega
   go_wp2_with fail
   refine(outs_any Ao Ap np co cp outs _ HNO NO16 NP16 hno9).mono ?_;rintro e w17 ⟨rfl,hb17⟩;have IV17:=κ (IV16.out.below hb17);have KC17:=κ (Blk.below' KC16.out hb17);clear a0 a1 b0 b1 e1 e2 e3 e4 hb17 IV16 KC16 NO16 NP16 A16 B16
   go_wp2_with fail
   refine(same9_any base base' gm gr qm1 qr1 _ (κ IV17.out.M) (κ IV17.out.R) (κ SZ1.out.pe) SZ1.out.nm SZ1.out.nr (κ SZ1.out.fr) SZ1.out.l1 SZ1.out.l2).mono ?_;rintro e w18 ⟨rfl,hb18⟩;have IV18:=κ (IV17.out.below hb18);have KC18:=κ (Blk.below' KC17.out hb18);clear hb18 IV17 KC17
   go_wp2_with fail
   go_roundg g
   case measure=>omega
   case rel=>exact⟨i+1,P1,qm1,qr1,by omega,by go_num,VP1,HSH1,IV18,KC18⟩
  ·have hib:i≤60:=by omega
   by_cases hiL:i<nL
   ·have t0:decide ((i:Int)<(nL:Int))=true:=by simp;omega
    have t1:decide ((i:Int)<60)=false:=by simp;omega
    have hfb: ∀(X Y:Option Addr) (a b:Int) (n m c d:Nat) (W:World),(Instr.field 75 (.agg (vB a b X n c Y m d)) 2).run Tryz.prog W= .ok (.slice X n c) W:=fun _ _ _ _ _ _ _ _ _=>by kernel_rfl
    have hfa: ∀(X Y:Option Addr) (a b:Int) (n m c d:Nat) (W:World),(Instr.field 75 (.agg (vB a b X n c Y m d)) 1).run Tryz.prog W= .ok (ι b) W:=fun _ _ _ _ _ _ _ _ _=>by kernel_rfl
    have bkn: ∀A C c d,bkA A C c d Mdo.bk0= .agg (vB 0 0 A 0 c C 0 d):=fun _ _ _ _=>rfl
    have BA:=fun(i:Int) (hi:inI i) (W:World) (hM:Hid (Mm base W gm qm))=>book_any base gm qm i W hM hi SZ.out.nm SZ.out.fm
    have Z1:=BA (-1) ⟨by decide,by decide⟩;have Z2:=BA (sN:Int) ⟨by omega,by omega⟩;rw[book_out (.inl (by decide))]at Z1;rw[book_out (.inr (by rw[SZ.out.nb,HSH.out];omega))]at Z2;have HN9:Hid (nL≤nL):=τ;clear BA
    go_wp2_with fail
    refine(Z1 _ (κ IV.out.M)).mono ?_;rintro e w11 ⟨A11,C11,c11,d11,rl11,he,_,hb11⟩;rw[bkn]at he;subst he;have IV11:=κ (IV.out.below hb11);have KC11:=κ (Blk.below' KC.out hb11);clear hb11 IV KC;obtain⟨k0,k1,k2,k3,k4,k5,k6⟩:=c7_of KC11.out
    go_wp2_with fail
    refine(Z2 _ (κ IV11.out.M)).mono ?_;rintro e w12 ⟨A12,C12,c12,d12,rl12,he,_,hb12⟩;rw[bkn]at he;subst he;have Q12:=κ (CrdB.below_step IV11.out.b hb12)
    go_wp2_with fail
    go_ret;exact madeB_mk rfl Q12.out
   ·have t0:decide ((i:Int)<(nL:Int))=false:=by simp;omega
    have hfb: ∀(X Y:Option Addr) (a b:Int) (n m c d:Nat) (W:World),(Instr.field 75 (.agg (vB a b X n c Y m d)) 2).run Tryz.prog W= .ok (.slice X n c) W:=fun _ _ _ _ _ _ _ _ _=>by kernel_rfl
    have hfa: ∀(X Y:Option Addr) (a b:Int) (n m c d:Nat) (W:World),(Instr.field 75 (.agg (vB a b X n c Y m d)) 1).run Tryz.prog W= .ok (ι b) W:=fun _ _ _ _ _ _ _ _ _=>by kernel_rfl
    have bkn: ∀A C c d,bkA A C c d Mdo.bk0= .agg (vB 0 0 A 0 c C 0 d):=fun _ _ _ _=>rfl
    have BA:=fun(i:Int) (hi:inI i) (W:World) (hM:Hid (Mm base W gm qm))=>book_any base gm qm i W hM hi SZ.out.nm SZ.out.fm
    have Z1:=BA (-1) ⟨by decide,by decide⟩;have Z2:=BA (sN:Int) ⟨by omega,by omega⟩;rw[book_out (.inl (by decide))]at Z1;rw[book_out (.inr (by rw[SZ.out.nb,HSH.out];omega))]at Z2;have HN9:Hid (nL≤nL):=τ;clear BA
    go_wp2_with fail
    refine(Z1 _ (κ IV.out.M)).mono ?_;rintro e w11 ⟨A11,C11,c11,d11,rl11,he,_,hb11⟩;rw[bkn]at he;subst he;have IV11:=κ (IV.out.below hb11);have KC11:=κ (Blk.below' KC.out hb11);clear hb11 IV KC;obtain⟨k0,k1,k2,k3,k4,k5,k6⟩:=c7_of KC11.out
    go_wp2_with fail
    refine(Z2 _ (κ IV11.out.M)).mono ?_;rintro e w12 ⟨A12,C12,c12,d12,rl12,he,_,hb12⟩;rw[bkn]at he;subst he;have Q12:=κ (CrdB.below_step IV11.out.b hb12)
    go_wp2_with fail
    go_ret;exact madeB_mk rfl Q12.out
set_option maxRecDepth 100000 in
theorem lifted(os:Os)(started:os.Started)(H:Type)(enc:TypeId×Value→H):
  ReturnsInHanded {} Tryz.checked os 3 .any (Rows.modelActsSpec.pre6 enc Tryz.prog Tryz.f3 Rows.modelActsRow.domain false) (Rows.modelActsSpec.post enc Tryz.prog Tryz.f3 false true false false):=by
 refine returnsInHanded_of_change_sized (C:=Tryz.checked) own started (by kernel_rfl) Tryz.func3
  (ChangeSpec.witness6 (enc:=enc) (C:=Tryz.checked) false ⟨#[],#[.agg #[.int .i64 0,.int .i64 0,.int .i64 0,.int .i64 0,.slice none 0 0,.slice none 0 0,.slice none 0 0],.slice none 0 0],[]⟩ 8 (by kernel_rfl) (by kernel_rfl) (by kernel_rfl) (by kernel_rfl)) ?_
 intro W base args ds gs before hval0 hW hcnd hsz _;have hval: ∀(j:Nat) t v,Tryz.f3.params[j]? =some t→args[j]? =some v→Value.okWide Tryz.prog W .any base t v:=hval0;have hW':=hW;obtain⟨p,q,hA0,hV,rfl,hfz,hnd⟩:=hW;have hA:DataW.TrodAll enc Tryz.prog W 0 (fun _=>true) true Tryz.f3.params.toList args.toList ds p:=hA0;rw[Tryz.params3]at hA hval;obtain⟨v0,vs0,d0,ds0,p0,q0,hargs,rfl,rfl,h0,r0⟩:=trodAll_cons hA;obtain⟨v1,vs1,d1,ds1,p1,q1,rfl,rfl,rfl,h1,r1⟩:=trodAll_cons r0;obtain⟨rfl,rfl,rfl⟩:=trodAll_nil r1;obtain rfl:args= #[v0,v1]:=by cases args;simp_all
 obtain⟨A0,n0,c0,rfl⟩:=okWide_slice Tryz.underlying27 (hval 1 _ v1 rfl rfl);obtain⟨fu,h1'⟩:=h1;obtain⟨Al,nL,cL,hv,_,_,hfr⟩:=Lro.open_raws (v:= .slice A0 n0 c0) h1';cases hv
 have hz0: ∀k∈d0.weights Tryz.prog 26,k≤reachBytes:=by
  intro k hk;have:=List.all_eq_true.1 hsz k (DataW.weights_mem_each (j:=0) rfl rfl k hk);simpa using this
 obtain⟨sh,wi,ra,ta,A,B,C,c,d,f,nd,ac,sy,rfl,_,_,_,_,k1,k2,k3,hn,hw,ha,hwa,hs,hws⟩:=open_conf_s (hval 0 _ v0 rfl rfl) h0 hz0;refine(inner sh wi ra ta A B C _ _ _ c d f nd ac sy A0 n0 c0 W rfl rfl rfl k1 k2 k3 hn ha hs hw hwa hws hfr).mono fun e W' ⟨he,hb⟩=>?_
 subst he;exact⟨_,rfl,law_post hW' rfl rfl rfl rfl (by kernel_rfl) Tryz.underlying4 (by rw[Tryz.params3];simp only[List.mem_cons,List.not_mem_nil,or_false,forall_eq_or_imp,forall_eq];exact⟨⟨by kernel_rfl,of_decide_eq_true (by kernel_rfl)⟩,⟨by kernel_rfl,of_decide_eq_true (by kernel_rfl)⟩⟩) laidOut hb⟩
theorem over:Rows.modelActsRow.holds Tryz.pinned (OpenSpec.ofChange Rows.modelActsSpec):=
 OpenClaim.holds_of_wide 3 Tryz.f3 rfl rfl rfl rfl rfl rfl rfl ⟨rfl,rfl,rfl,rfl,rfl⟩ rfl rfl rfl rfl rfl (by kernel_rfl) Tryz.func3 (by kernel_rfl)
  (of_decide_eq_true (by kernel_rfl)) (by unfold Func.isWrapper;first|(rw[if_pos (by decide+kernel)];kernel_rfl)|(rw[if_neg (by decide+kernel)];exact⟨rfl,rfl⟩))
  (fun os started H enc _=>lifted os started H enc)
theorem proved:Rows.ModelActsSaid:=over
#print axioms proved
end modelActs
end Go.Proofs.YtfbajlcljfjbkaaGreat
