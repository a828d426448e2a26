/- The law, walked in each of its turns: it returns true, and its arguments read as they did. No condition of ours. Texts side by side. -/
import Derived.Test.YtfbajlcljfjbkaaGreatUdaq
import Derived.Test.YtfbajlcljfjbkaaGreatUdav
import Derived.Test.YtfbajlcljfjbkaaGreatUdaw
import Derived.Test.YtfbajlcljfjbkaaGreatUdax
import Derived.Test.YtfbajlcljfjbkaaGreatUday
import Derived.Test.YtfbajlcljfjbkaaGreatUdba
set_option linter.unusedVariables false
set_option linter.unusedSimpArgs false
set_option maxRecDepth 100000
set_option maxHeartbeats 16000000
namespace Go.Proofs.YtfbajlcljfjbkaaGreat
open Kap Abv Go.ChangeShapes Go.WideShapes Go.ChangeAt Go.RowKit Mem Tre Ref3 Law3 Fix3 Opn Bnd Flo Cfg Crd CrdB CrdC Rr4 Cfr Rul5 St7 Rul6 Fcf Fown Rul7 Tl5 Gdc Ocs Bkp Bks Bkf Bcl Dlk Stk Apt Bko Bku Bka Bkc Bkq Wpl Mdd Mdq Mde Rmp Lac Lst Go.Joins Go.Deep Mdp Sme
namespace modelSums
open Mdz (Mz FarE FzB Mz_of FarE_of FarE_new)
open Mds (Pm plO)
open Mdg (bgnP mbegin_any)
open Rmg (rmbegin_any)
open Rmd (rmdo_any)
open Mdt (told9_any)
open Mdv (bookF book_any)
open Lro (Rw Frs V16 WfR)
open Lfx (fix9_any)
open Lou (op_any c15_of)
open Lsu (sums_any MadeSu)
open Mdx (credit_any)
variable {q qm qr:Mq} {base base' bm br gm gr m:Nat} {P:Pm} {w w0:World}
theorem own:ownKnob Tryz.prog.godebug=none:=by kernel_rfl
theorem laidOut:laidOutB Tryz.prog=true:=by kernel_rfl
theorem few_of(h:plO q=P)(v:Vp m P)(hm:m≤900): ∀k,k<q.xs.length→FewB (gX q.xs k).b:=by
 subst h;exact fun k hk=>((v.bk _ (gX_mem hk)).1.1).few (by omega)
theorem pl_len{q2:Mq}(h:plO q=plO q2):q.xs.length=q2.xs.length∧q.cl.length=q2.cl.length∧q.cu.length=q2.cu.length:=by
 have h1:=congrArg (fun p:Pm=>p.bs.length) h;have h2:=congrArg (fun p:Pm=>p.cl.length) h;have h3:=congrArg (fun p:Pm=>p.cu.length) h;exact⟨by simpa[plO] using h1,h2,h3⟩
structure Sz(m:Nat)(P:Pm)(qm qr:Mq):Prop where
 vm:Mdo.Vq m qm
 om:Mdj.Vo qm
 vr:Mdo.Vq m qr
 or:Mdj.Vo qr
 pe:plO qm=plO qr
 nm:qm.nb≤1000
 nr:qr.nb≤1000
 fm: ∀k,k<qm.xs.length→FewB (gX qm.xs k).b
 fr: ∀k,k<qr.xs.length→FewB (gX qr.xs k).b
 l1:qr.n1≤1000
 l2:qr.n2≤1000
 ep:0≤qm.ep∧qm.ep≤1000000000
 er:0≤qr.ep∧qr.ep≤1000000000
 nb:(qm.nb:Int)=P.sh
theorem rq_of{g:Nat}(h:Rm base w g q)(hv:Vp m (plO q)):Mdo.Vq m q∧Mdj.Vo q:=by
 have e2:(plO q).ac.length=q.al:=h.l2.symm;refine⟨⟨by rw[h.l1];exact hv.n,by rw[h.l2];exact hv.a,by rw[h.l2];exact hv.a1,by rw[h.l3];exact hv.s,hv.ws,hv.wa,hv.sh,?_,hv.wi,fun i hi=>?_,hv.cr⟩,fun i hi e he=>?_⟩
 ·have h1:=hv.nb;rw[show(plO q).bs.length=q.nb from by show(q.xs.map Bx.b).length=_;rw[List.length_map];exact h.l4.symm]at h1;exact h1
 ·have h1:=(hv.bk _ (gX_mem hi)).1;rw[e2]at h1;exact h1
 ·have h1:=(hv.bk _ (gX_mem hi)).2 e he;rw[e2]at h1;exact h1
theorem sz_of(h:Iv w0 w base base' gm gr bm br P P qm qr)(v:Vp m P)(hm:m≤900):Sz m P qm qr:=by
 have vm:=Vq_of h.M (by rw[h.pm];exact v);have vr:=rq_of h.R (by rw[h.pr];exact v);have hc:=v.cr.few;have hcu:=v.cr.len;have e1:qr.cl.length=P.cl.length:=by rw[←h.pr];rfl
 have e2:qr.cu.length=P.cu.length:=by rw[←h.pr];rfl
 have hep:=v.ep;have e3:qm.ep=P.ep:=by rw[←h.pm];rfl
 have e4:qr.ep=P.ep:=by rw[←h.pr];rfl
 have e5:qm.sh=P.sh:=by rw[←h.pm];rfl
 have s1:=vm.1.nb;have s2:=vm.1.sh;have s3:=vr.1.nb;have s4:=vr.1.sh;exact⟨vm.1,vm.2,vr.1,vr.2,h.pm.trans h.pr.symm,by omega,by omega,few_of h.pm v hm,few_of h.pr v hm,by rw[h.R.l5,e1];omega,by rw[h.R.l6,e2,hcu];omega,by rw[e3];omega,by rw[e4];omega,by rw[s1,e5]⟩
theorem sums_iv(h:Iv w0 w base base' gm gr bm br P P qm qr)(v:Vp m P)(hm:m≤900)(s:Sm P)(hwn:WfN P.nd)(ho:Okt P.nd):
  Calls Tryz.prog 19 #[.pointer (some ⟨gr,0,none⟩)] w (MadeSu P.cu w):=by
 have z:=sz_of h v hm;have hpr:=h.pr;have e1:qr.nd=P.nd:=by rw[←hpr];rfl
 have e2:qr.ac=P.ac:=by rw[←hpr];rfl
 have e3:qr.xs.map Bx.b=P.bs:=by rw[←hpr];rfl
 have hnl:qr.nl=P.nd.length:=by rw[h.R.l1,e1]
 have hal:qr.al=P.ac.length:=by rw[h.R.l2,e2]
 have hcu:P.cu.length=P.nd.length:=by rw[v.cr.len,s.par.1]
 have hn:=v.n;have ha:=v.a
 have hL:((List.range qr.nl).map fun k=>sumB qr.nd qr.ac (qr.xs.map Bx.b) k)=P.cu:=by
  rw[e1,e2,e3,hnl];refine Cpl.ext_gI (by simp[hcu]) fun j hj=>?_
  have hj':j<P.nd.length:=by simpa using hj
  rw[s.eq j (by omega)];simp[gI,hj']
 have hs:=sums_any base' gr qr w (κ h.R) (κ (by rw[e1];exact hwn)) (κ (by rw[e2];exact v.wa)) (κ (by rw[e1];exact ho)) (by omega) (by omega) z.nr (κ (fun k hk=>(z.fr k hk).ol)) (κ (by rw[e3,hal];exact fun b hb=>(v.bk b hb).2)) (κ (by
  rw[e1,e2,e3]
  intro k hk
  rw[←s.eq k (by omega)]
  exact(v.cr.uok k (by omega)).2))
 rw[hL]at hs;exact hs
theorem cred_iv(h:Iv w0 w base base' gm gr bm br P P qm qr)(v:Vp m P):
  Calls Tryz.prog 18 #[.pointer (some ⟨gm,0,none⟩)] w (MadeStF P.cl P.cu w):=by
 have e1:qm.cl=P.cl:=by rw[←h.pm];rfl
 have e2:qm.cu=P.cu:=by rw[←h.pm];rfl
 have h1:=v.cr.few;have h2:=v.cr.len;have hc:=credit_any base gm qm w (κ h.M) (by rw[e1];omega) (by rw[e2];omega);rw[e1,e2]at hc;exact hc
theorem sm_begin{sh wi ra ta:Int}{nd:List (Int×Int)}{ac:List Int}{sy:List (Int×Int×Int×Nat)}(hc:cfgF sh wi ra ta nd ac sy=0):Sm (bgnP sh wi ra ta nd ac sy):=by
 obtain⟨_,_,_,_,hacc,_⟩:=Mdg.cfg_ok hc;refine⟨⟨rfl,fun _=>rfl⟩,fun a ha=>of_decide_eq_true hacc a ha,fun k hk=>?_⟩;have hk':k<nd.length:=by simpa[bgnP,zeros] using hk
 have e1:gI (bgnP sh wi ra ta nd ac sy).cu k=0:=by simp[bgnP,gI,zeros,hk']
 have e2: ∀(l:List Nat),((l.map (fun j:Nat=>Bkj.beginF ac.length (j:Int))).map fun b=>sumE nd ac b.op k).sum=0:=by
  intro l
  induction l with
  |nil=>rfl
  |cons a l ih=>rw[List.map_cons,List.map_cons,List.sum_cons,ih];rfl
 rw[e1];exact(e2 _).symm
theorem inner(sh0 wi0 ra0 ta0:Int)(A B C:Option Addr)(N M K c d f:Nat)(nd:List (Int×Int))(ac:List Int)(sy:List (Int×Int×Int×Nat))(Al:Option Addr)(nL cL:Nat)(w:World)
  (hN:Hid (N=nd.length))(hM:Hid (M=ac.length))(hK:Hid (K=sy.length))(hn9:(nd.length:Int)≤4611686018427387904)(ha9:(ac.length:Int)≤4611686018427387904)(hk9:(sy.length:Int)≤4398046511104)
  (hl:Hid (Nds w w.heap.size A nd))(hu:Hid (Ris w w.heap.size B ac))(hs:Hid (Btb w w.heap.size C sy))(hw:Hid (WfN nd))(hwa:Hid (WfI ac))(hws:Hid (WfS sy))(hfr:Hid (Frs w w.heap.size Al nL)):
  Calls Tryz.prog 4 #[.agg #[.int .i64 sh0,.int .i64 wi0,.int .i64 ra0,.int .i64 ta0,.slice A N c,.slice B M d,.slice C K f],.slice Al nL cL] w (MadeB true w):=by
 have U0:=κ (β w (.cells (vC sh0 wi0 ra0 ta0 A N c B M d C K f) 26));have K0:=κ (Blk.fresh w 26 (vC sh0 wi0 ra0 ta0 A N c B M d C K f))
 go_enter Tryz.func4,Tryz.ntmps4
 go_upto_region 1 with fail
 generalize w.alloc (.cells (vC sh0 wi0 ra0 ta0 A N c B M d C K f) 26)=w0 at U0 K0 ⊢;generalize w.heap.size=g0 at K0 ⊢;obtain⟨k0,k1,k2,k3,k4,k5,k6⟩:=c7_of K0.out
 go_wp2_with fail
 refine(ref_any sh0 wi0 ra0 ta0 A B C c d f N M K nd ac sy _ hN hM hK (Rd.below' hl.out U0.out U0.out.size) (Rd.below' hu.out U0.out U0.out.size) (Rd.below' hs.out U0.out U0.out.size) (by rw[hK.out];exact hk9)).mono ?_;rintro e w1 ⟨A1,B1,C1,c1,d1,f1,rfl,hn1,hu1,hs1,hb1⟩;have U1:=κ (CrdB.below_step U0.out hb1);have HN:=κ hn1;have HU:=κ hu1;have HS:=κ hs1;clear k0 k1 k2 k3 k4 k5 k6 K0 U0 hn1 hu1 hs1 hb1
 go_wp2_with fail
 refine(fixd_any sh0 wi0 ra0 ta0 A1 B1 C1 c1 d1 f1 nd ac sy _ HN HU HS hw hwa hws hn9 ha9 (by omega)).mono ?_;rintro e w2 ⟨sh,wi,ra,ta,nd2,ac2,sy2,hgood,hokt,A2,B2,C2,c2,d2,f2,rfl,hn2,hu2,hs2,hb2⟩;obtain⟨nl,hnl⟩:=ν nd2.length;obtain⟨al,hal⟩:=ν ac2.length;obtain⟨sl,hsl⟩:=ν sy2.length;have L1:=κ hnl;have L2:=κ hal;have L3:=κ hsl;have l1:nl≤10:=by rw[hnl];exact hgood.n2
 have l2:al≤5:=by rw[hal];exact hgood.a2
 have l3:sl≤3:=by rw[hsl];exact hgood.s2
 obtain⟨sN,hsN⟩: ∃sN:Nat,sh=sN:=⟨sh.toNat,by have:=hgood.h1;omega⟩;have hsN9:sN≤3:=by have:=hgood.h2;omega
 have HCF:=κ hgood.cfg;have V0:=κ (Vp_begin hgood.cfg hokt hgood.n1 (by have:=hgood.n2;omega) hgood.ws hgood.wa);have HWN:=κ hgood.wn;have SM0:=κ (sm_begin hgood.cfg);have FX0:Hid (WfN (bgnP sh wi ra ta nd2 ac2 sy2).nd∧Okt (bgnP sh wi ra ta nd2 ac2 sy2).nd):=⟨hgood.wn,hokt⟩;subst hsN;simp only[←hnl,←hal,←hsl];have V2:=β w2 (.cells (vC (sN:Int) wi ra ta A2 nl c2 B2 al d2 C2 sl f2) 30);have K2:=κ (Blk.fresh w2 30 (vC (sN:Int) wi ra ta A2 nl c2 B2 al d2 C2 sl f2));have U2:=κ (CrdB.below_step (CrdB.below_step U1.out hb2) V2);have N2:=θ hn2 V2;have R2:=η hu2 V2;have S2:Hid (Smb (w2.alloc (.cells (vC (sN:Int) wi ra ta A2 nl c2 B2 al d2 C2 sl f2) 30)) (w2.alloc (.cells (vC (sN:Int) wi ra ta A2 nl c2 B2 al d2 C2 sl f2) 30)).heap.size C2 sy2):=Rd.below' hs2 V2 V2.size;clear HN HU HS U1 hb2 hn2 hu2 hs2 V2 hnl hal hsl hgood hokt
 go_upto_region 2 with fail
 generalize w2.alloc (.cells (vC (sN:Int) wi ra ta A2 nl c2 B2 al d2 C2 sl f2) 30)=w3 at K2 U2 N2 R2 S2 ⊢;generalize w2.heap.size=gC at K2 ⊢;obtain⟨k0,k1,k2,k3,k4,k5,k6⟩:=c7_of K2.out;have TX:=to5_any (sN:Int) wi ra ta A2 B2 C2 c2 d2 f2 nd2 ac2 sy2 w3 N2 R2 S2 HWN (by rw[←L1.out];omega) (by rw[←L2.out];omega) (by rw[←L3.out];omega);unfold MadeCf at TX;rw[←L1.out,←L2.out,←L3.out]at TX
 go_wp2_with fail
 refine TX.mono ?_;rintro e w4 ⟨A4,B4,C4,c4,d4,f4,rfl,n4,u4,s4,hb4⟩;have K4:=κ (Blk.below' K2.out hb4);have U4:=κ (CrdB.below_step U2.out hb4);have N4:=θ N2.out hb4;have R4:=η R2.out hb4;have S4:Hid (Smb w4 w4.heap.size C2 sy2):=Rd.below' S2.out hb4 hb4.size;have NN:=κ n4;have UU:=κ u4;have SS:=κ s4;clear k0 k1 k2 k3 k4 k5 k6 TX n4 u4 s4 hb4 K2 U2 N2 R2 S2
 go_wp2_with fail
 refine(mbegin_any (sN:Int) wi ra ta A4 B4 C4 nl al sl c4 d4 f4 nd2 ac2 sy2 _ L1 L2 L3 NN UU SS HWN (by omega) (by omega) (by omega)).mono ?_;rintro e w5 ⟨hb5,_,hmk⟩;obtain⟨gm,qm,rfl,hM5,hP5⟩:=hmk HCF.out;have M5:=κ hM5;have P5:=κ hP5;have K5:=κ (Blk.below' K4.out hb5);have U5:=κ (CrdB.below_step U4.out hb5);have B5:=κ hb5;have N5:=θ N4.out hb5;have R5:=η R4.out hb5;have S5:Hid (Smb w5 w5.heap.size C2 sy2):=Rd.below' S4.out hb5 hb5.size;clear hb5 hmk hM5 hP5 K4 NN UU SS
 go_upto_region 3 with fail
 obtain⟨k0,k1,k2,k3,k4,k5,k6⟩:=c7_of K5.out
 go_wp2_with fail
 refine(rmbegin_any sN wi ra ta A2 B2 C2 nl al sl c2 d2 f2 nd2 ac2 sy2 _ L1 L2 L3 N5 R5 S5 (by omega) (by omega) (by omega)).mono ?_;rintro e w6 ⟨gr,qr,rfl,hR6,hP6,hcq,hb6,hz6⟩;obtain⟨bm,br,hiv⟩:=iv_start (w0:=w) M5.out hb6 hR6 hz6 N4.out R4.out S4.out P5.out hP6 V0.out hcq (CrdB.below_step U5.out hb6) U4.out.size B5.out.size;have K6:=κ (Blk.below' K5.out hb6);have IV6:=κ hiv;clear k0 k1 k2 k3 k4 k5 k6 hR6 hP6 hcq hb6 hz6 hiv M5 P5 K5 U5 B5 N5 R5 S5 N4 R4 S4 HWN HCF L1 L2 L3;generalize bgnP (sN:Int) wi ra ta nd2 ac2 sy2=P0 at V0 IV6 SM0 FX0;generalize w4.heap.size=base at IV6;generalize w5.heap.size=base' at IV6
 go_upto_region 4 with fail
 go_wp2_with fail
 refine(told9_any _).mono ?_;rintro e w7 ⟨rfl,hb7⟩;have IV8:=κ (IV6.out.below hb7);clear hb7 K6 IV6
 go_wp2_with fail
 go_loopg [9] (min nL 60) (fun g9 s9 w'=> ∃(i:Nat) (P:Pm) (qm qr:Mq),i+g9=min nL 60∧s9= ι i∧Hid (Vp i P)∧Hid (Sm P)∧Hid (WfN P.nd∧Okt P.nd)∧Hid (Iv w w' base base' gm gr bm br P P qm qr))
 case atStart=>exact⟨0,P0,qm,qr,by omega,rfl,V0,SM0,FX0,IV8⟩
 case round=>
  clear V0 SM0 FX0 IV8;obtain⟨i,P,qm,qr,hi,rfl,VP,SM,FX,IV⟩:=hrel;have SZ:=κ (sz_of IV.out VP.out (by omega));by_cases hlt:i<min nL 60
  ·obtain⟨g,rfl⟩: ∃g9,gk=g9+1:=⟨gk-1,by omega⟩;have hiL:i<nL:=by omega
   have t0:decide ((i:Int)<(nL:Int))=true:=by simp;omega
   have t1:decide ((i:Int)<60)=true:=by simp;omega
   have t2:decide (i<nL)=true:=by simp;omega
   obtain⟨lb,lo,rr,hAl,hlb,hwr,hv16⟩:=hfr.out i hiL;subst hAl;obtain⟨⟨k,a,s,x,p,q,n,t,i9,y,z,v⟩,wh,sw,sx,ex⟩:=rr;obtain⟨⟨w0',w1',w2',w3',w4',w5',w6',w7',w8',w9',w10'⟩,w11',w12',w13'⟩:=hwr;simp only at w0' w1' w2' w3' w4' w5' w6' w7' w8' w9' w10' w11' w12' w13';have HWP:=κ w3';have HWQ:=κ w4';have HWT:=κ w6';have HWY:=κ w8'.2;have HWV:=κ w10'.2;have HWX:=κ w12';have HWE:Hid (-9223372036854775808≤ex∧ex≤9223372036854775807):=w13';have hwh:=w11'.2;clear w0' w1' w2' w3' w4' w5' w6' w7' w8' w9' w10' w11' w12' w13';have hq: ∀(o:Nat) (v:Value),w.cell? (α lb o)=some v→wr.cell? (α lb o)=some v:=fun o v hc=>by rw[World.cell?_of_block (IV.out.b.block lb hlb)];exact hc
   obtain⟨v0,v1,v2,v3,v4,v5,v6,v7,v8,v9,v10,v11,v12,v13,v14,v15⟩:=hv16;have v0:=hq _ _ v0;have v1:=hq _ _ v1;have v2:=hq _ _ v2;have v3:=hq _ _ v3;have v4:=hq _ _ v4;have v5:=hq _ _ v5;have v6:=hq _ _ v6;have v7:=hq _ _ v7;have v8:=hq _ _ v8;have v9:=hq _ _ v9;have v10:=hq _ _ v10;have v11:=hq _ _ v11;have v12:=hq _ _ v12;have v13:=hq _ _ v13;have v14:=hq _ _ v14;have v15:=hq _ _ v15;clear hq;simp only at v0 v1 v2 v3 v4 v5 v6 v7 v8 v9 v10 v11 v12 v13 v14 v15
   go_wp2_with fail
   refine(fix9_any base' gr qr k a s p q n t i9 y z v wh sx ex x sw _ (κ IV.out.R) SZ.out.nr (κ (fun k hk=>(SZ.out.fr k hk).ol)) hwh).mono ?_;rintro e w10 ⟨j,rfl,hb10⟩;have X10:=β w10 (.cells (vP k a s x p q n t j y z v sw sx ex) 51);have O11:=κ (Blk.fresh w10 51 (vP k a s x p q n t j y z v sw sx ex));have IV11:=κ ((IV.out.below hb10).below X10);clear v0 v1 v2 v3 v4 v5 v6 v7 v8 v9 v10 v11 v12 v13 v14 v15 hb10 X10 IV t0 t1 t2
   go_upto_region 10 with fail
   generalize w10.alloc (.cells (vP k a s x p q n t j y z v sw sx ex) 51)=w11 at O11 IV11 ⊢;generalize w10.heap.size=gO at O11 ⊢;obtain⟨o0,o1,o2,o3,o4,o5,o6,o7,o8,o9,o10,o11,o12,o13,o14⟩:=c15_of O11.out
   go_wp2_with fail
   refine(op_any k a s p q n t j y z v sx ex x sw _).mono ?_;rintro e w12 ⟨rfl,hb12⟩;have O12:=κ (Blk.below' O11.out hb12);have IV12:=κ (IV11.out.below hb12);clear o0 o1 o2 o3 o4 o5 o6 o7 o8 o9 o10 o11 o12 o13 o14 hb12 O11 IV11;have VP1:=κ (Vp_do VP.out ⟨⟨k,a,s,x,p,q,n,t,j,y,z,v⟩,sw,sx,ex⟩ HWT.out HWP.out HWQ.out);have SM1:=κ (Sm_do SM.out VP.out ⟨⟨k,a,s,x,p,q,n,t,j,y,z,v⟩,sw,sx,ex⟩);have FX1:Hid (WfN (doF P ⟨⟨k,a,s,x,p,q,n,t,j,y,z,v⟩,sw,sx,ex⟩).1.nd∧Okt (doF P ⟨⟨k,a,s,x,p,q,n,t,j,y,z,v⟩,sw,sx,ex⟩).1.nd):=by show _∧_;rw[(do_nd P ⟨⟨k,a,s,x,p,q,n,t,j,y,z,v⟩,sw,sx,ex⟩).1];exact FX.out
   have D12:=do_any base gm i qm k a s p q n t j y z v sx ex x sw w12 (κ IV12.out.M) (κ SZ.out.vm) (by omega) (κ SZ.out.om) SZ.out.ep HWP.out HWQ.out HWY.out HWV.out HWX.out HWE.out.1 HWE.out.2;have E12:=fun(W:World) (hR:Hid (Rm base' W gr qr))=>rmdo_any base' gr i qr k a s p q n t j y z v sx ex x sw W hR (κ SZ.out.vr) (by omega) (κ SZ.out.or) SZ.out.er HWP.out HWQ.out HWY.out HWV.out HWX.out HWE.out.1 HWE.out.2 (κ IV12.out.cq) (fun w0=>Wry.rright_any ⟨k,a,s,x,p,q,n,t,j,y,z,v⟩ w0)
   rw[IV12.out.pm]at D12;simp only[IV12.out.pr]at E12;generalize doF P ⟨⟨k,a,s,x,p,q,n,t,j,y,z,v⟩,sw,sx,ex⟩=RES at VP1 SM1 FX1 D12 E12;obtain⟨P1,cd,id,outs⟩:=RES;simp only at VP1 SM1 FX1 D12 E12
   go_wp2_with fail
   refine D12.mono ?_;rintro e w13 ⟨qm1,Ao,no,co,rfl,hno,hO13,hf13,hM13,hP13,hA13,hK13,hZ13⟩;have IV13:=κ (IV12.out.mdo hM13 hP13 hA13 hK13 hZ13);have O13:=κ (blk_do O12.out IV12.out.M (by decide) (by decide) hK13);clear hno hO13 hf13 hM13 hP13 hA13 hK13 hZ13 D12 O12 IV12
   go_upto_region 11 with fail
   obtain⟨o0,o1,o2,o3,o4,o5,o6,o7,o8,o9,o10,o11,o12,o13,o14⟩:=c15_of O13.out
   go_wp2_with fail
   refine(E12 _ (κ IV13.out.R)).mono ?_;rintro e w15 ⟨qr1,Ap,np,cp,rfl,hnp,hO15,hf15,hM15,hP15,hA15,hK15,hZ15,hC15⟩;have IV15:=κ (IV13.out.rdo hM15 hP15 hA15 hK15 hZ15 hC15);clear o0 o1 o2 o3 o4 o5 o6 o7 o8 o9 o10 o11 o12 o13 o14 hnp hO15 hf15 hM15 hP15 hA15 hK15 hZ15 hC15 E12 O13 IV13 SZ VP SM FX
   go_upto_region 12 with fail
   have hfd: ∀(X Y:Option Addr) (n m c d:Nat) (W:World),(Instr.field 80 (.agg (vS X n c Y m d)) 1).run Tryz.prog W= .ok (.slice Y m d) W:=fun _ _ _ _ _ _ _=>by kernel_rfl
   go_wp2_with fail
   refine(cred_iv IV15.out VP1.out).mono ?_;rintro e w16 ⟨A5,c5,A6,c6,rfl,hn5,hr5,hb5,_,_⟩;have IV16:=κ (IV15.out.below hb5);have R16:=κ hr5;clear hn5 hr5 hb5 IV15;obtain⟨nu,hnu⟩:=ν P1.cu.length;have HNU:=κ hnu;have hnu9:nu≤1000:=by have h1:=VP1.out.cr.few;have h2:=VP1.out.cr.len;omega
   rw[←hnu];clear hnu
   go_wp2_with fail
   refine(sums_iv IV16.out VP1.out (by omega) SM1.out FX1.out.1 FX1.out.2).mono ?_;rintro e w17 ⟨gS,nS,rfl,hnS,hr17,hb17⟩;have hnS':nS=nu:=by rw[hnS,HNU.out]
   subst hnS';have IV17:=κ (IV16.out.below hb17);have R17:=η R16.out hb17;have S17:=κ hr17;clear hnS hr17 hb17 IV16 R16;have e1:((nS:Int) != (nS:Int))=false:=by simp
   have e2:((nS:Int)==(nS:Int))=true:=by simp
   go_wp2_with fail
   clear e1 e2
   go_loopg [13] nS (fun g13 s13 w'=> ∃(k nq:Nat),k+g13=nS∧s13= ι k∧w'=w17.drewN nq)
   case atStart=>exact⟨0,0,by omega,rfl,rfl⟩
   case round=>
    obtain⟨kk,nq,hkk,rfl,rfl⟩:=hrel;by_cases hlk:kk<nS
    ·obtain⟨g10,rfl⟩: ∃g9,gk=g9+1:=⟨gk-1,by omega⟩;have hkl:kk<P1.cu.length:=by rw[←HNU.out];exact hlk
     obtain⟨b5,o5,hA5,hb5,hc5⟩:=Ris.at R17.out hkl;obtain⟨b6,o6,hA6,hb6,hc6⟩:=Ris.at S17.out hkl;have d5:=hc5 kk hkl;have d6:=hc6 kk hkl
     obtain⟨hbs,hos,_⟩:gS=b6∧0=o6∧True:=by
      have h9:=Option.some.inj hA6;injection h9 with h10 h11 _
      exact⟨h10,h11,trivial⟩
     subst hbs;subst hos;rw[Nat.zero_add]at d6;subst hA5;generalize gI P1.cu kk=vv at d5 d6;have t0:decide ((kk:Int)<(nS:Int))=true:=by simp;omega
     have t0':decide (kk<nS)=true:=by simp;omega
     have t1:(vv != vv)=false:=by simp
     have t2:(vv==vv)=true:=by simp
     clear hc5 hc6 hkl hA6
     go_wp2_with fail
     go_quiet (fail)
     go_wp2_with fail
     go_roundg g10
     case measure=>omega
     case rel=>exact⟨kk+1,_,by omega,by go_num,rfl⟩
    ·have t0:decide ((kk:Int)<(nS:Int))=false:=by simp;omega
     have IV18:=κ (IV17.out.below (Below.drewN' ψ nq))
     go_wp2_with fail
     go_roundg g
     case measure=>omega
     case rel=>exact⟨i+1,P1,qm1,qr1,by omega,by go_num,VP1,SM1,FX1,IV18⟩
  ·have hib:i≤60:=by omega
   have Q12:=κ IV.out.b;by_cases hiL:i<nL
   ·have t0:decide ((i:Int)<(nL:Int))=true:=by simp;omega
    have t1:decide ((i:Int)<60)=false:=by simp;omega
    go_wp2_with fail
    go_ret;exact madeB_mk rfl Q12.out
   ·have t0:decide ((i:Int)<(nL:Int))=false:=by simp;omega
    go_wp2_with fail
    go_ret;exact madeB_mk rfl Q12.out
set_option maxRecDepth 100000 in
theorem lifted(os:Os)(started:os.Started)(H:Type)(enc:TypeId×Value→H):
  ReturnsInHanded {} Tryz.checked os 4 .any (Rows.modelSumsSpec.pre6 enc Tryz.prog Tryz.f4 Rows.modelSumsRow.domain false) (Rows.modelSumsSpec.post enc Tryz.prog Tryz.f4 false true false false):=by
 refine returnsInHanded_of_change_sized (C:=Tryz.checked) own started (by kernel_rfl) Tryz.func4
  (ChangeSpec.witness6 (enc:=enc) (C:=Tryz.checked) false ⟨#[],#[.agg #[.int .i64 0,.int .i64 0,.int .i64 0,.int .i64 0,.slice none 0 0,.slice none 0 0,.slice none 0 0],.slice none 0 0],[]⟩ 8 (by kernel_rfl) (by kernel_rfl) (by kernel_rfl) (by kernel_rfl)) ?_
 intro W base args ds gs before hval0 hW hcnd hsz _;have hval: ∀(j:Nat) t v,Tryz.f4.params[j]? =some t→args[j]? =some v→Value.okWide Tryz.prog W .any base t v:=hval0;have hW':=hW;obtain⟨p,q,hA0,hV,rfl,hfz,hnd⟩:=hW;have hA:DataW.TrodAll enc Tryz.prog W 0 (fun _=>true) true Tryz.f4.params.toList args.toList ds p:=hA0;rw[Tryz.params4]at hA hval;obtain⟨v0,vs0,d0,ds0,p0,q0,hargs,rfl,rfl,h0,r0⟩:=trodAll_cons hA;obtain⟨v1,vs1,d1,ds1,p1,q1,rfl,rfl,rfl,h1,r1⟩:=trodAll_cons r0;obtain⟨rfl,rfl,rfl⟩:=trodAll_nil r1;obtain rfl:args= #[v0,v1]:=by cases args;simp_all
 obtain⟨A0,n0,c0,rfl⟩:=okWide_slice Tryz.underlying27 (hval 1 _ v1 rfl rfl);obtain⟨fu,h1'⟩:=h1;obtain⟨Al,nL,cL,hv,_,_,hfr⟩:=Lro.open_raws (v:= .slice A0 n0 c0) h1';cases hv
 have hz0: ∀k∈d0.weights Tryz.prog 26,k≤reachBytes:=by
  intro k hk;have:=List.all_eq_true.1 hsz k (DataW.weights_mem_each (j:=0) rfl rfl k hk);simpa using this
 obtain⟨sh,wi,ra,ta,A,B,C,c,d,f,nd,ac,sy,rfl,_,_,_,_,k1,k2,k3,hn,hw,ha,hwa,hs,hws⟩:=open_conf_s (hval 0 _ v0 rfl rfl) h0 hz0;refine(inner sh wi ra ta A B C _ _ _ c d f nd ac sy A0 n0 c0 W rfl rfl rfl k1 k2 k3 hn ha hs hw hwa hws hfr).mono fun e W' ⟨he,hb⟩=>?_
 subst he;exact⟨_,rfl,law_post hW' rfl rfl rfl rfl (by kernel_rfl) Tryz.underlying4 (by rw[Tryz.params4];simp only[List.mem_cons,List.not_mem_nil,or_false,forall_eq_or_imp,forall_eq];exact⟨⟨by kernel_rfl,of_decide_eq_true (by kernel_rfl)⟩,⟨by kernel_rfl,of_decide_eq_true (by kernel_rfl)⟩⟩) laidOut hb⟩
theorem over:Rows.modelSumsRow.holds Tryz.pinned (OpenSpec.ofChange Rows.modelSumsSpec):=
 OpenClaim.holds_of_wide 4 Tryz.f4 rfl rfl rfl rfl rfl rfl rfl ⟨rfl,rfl,rfl,rfl,rfl⟩ rfl rfl rfl rfl rfl (by kernel_rfl) Tryz.func4 (by kernel_rfl)
  (of_decide_eq_true (by kernel_rfl)) (by unfold Func.isWrapper;first|(rw[if_pos (by decide+kernel)];kernel_rfl)|(rw[if_neg (by decide+kernel)];exact⟨rfl,rfl⟩))
  (fun os started H enc _=>lifted os started H enc)
theorem proved:Rows.ModelSumsSaid:=over
#print axioms proved
end modelSums
end Go.Proofs.YtfbajlcljfjbkaaGreat
