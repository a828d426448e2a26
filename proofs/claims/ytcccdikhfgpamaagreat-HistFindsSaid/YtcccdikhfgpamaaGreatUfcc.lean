/- The law, walked in each of its turns: it returns true, and its arguments read as they did. No condition of ours. Texts side by side. -/
import Derived.Test.YtcccdikhfgpamaaGreatUfbr
import Derived.Test.YtcccdikhfgpamaaGreatUfbs
import Derived.Test.YtcccdikhfgpamaaGreatUfca
set_option linter.unusedVariables false
set_option linter.unusedSimpArgs false
set_option maxRecDepth 100000
set_option maxHeartbeats 16000000
namespace Go.Proofs.YtcccdikhfgpamaaGreat
open Kap Abv Go.ChangeShapes Go.WideShapes Go.ChangeAt Go.RowKit Mem Tre Ref3 Law3 Fix3 Opn Bnd Flo Cfg Crd CrdB CrdC Rr4 Cfr Rul5 St7 Rul6 Fcf Fown Rul7 Tl5 Gdc Ocs Bkp Stk Apt Lac Wpl Hpa Hpl Hri Hqp Lat Lax Go.Joins Go.Deep Hfp Hss Hgr Hsc Mdp Mdd
namespace histFinds
open Hck (WfE chkF)
open Hcc (hchk_any)
open Hcq (hque_any)
open Hen (entries_any)
open Hof (MadeOf)
open Hou (outs_any)
open Htd (told10_any)
open Lro (Rw Frs V16 WfR open_raws)
open Lfx (fix9_any)
open Lou (c15_of)
open Rmg (rmbegin_any)
open Rmd (rmdo_any)
open Rmp (Rm Cq Rm_below Rz_of)
open Mdz (Mz)
open Mds (Pm plO)
open Hdi (let_ids ip_begin)
open Lst (do_outs)
open Hck (rq_of)
open Rr4 (step_appG)
open Mdg (bgnP)
open Mdq (Vp Vp_begin Vp_do gX_mem)
theorem nds_app(x y:List (Int×Int)):nds (x++y)=nds x++nds y:=by simp[nds]
theorem w64{x:Int}(h0: -9223372036854775808≤x)(h1:x≤9223372036854775807):wrap64 x=x:=by unfold wrap64;omega
theorem rent_i:(Tryz.prog.info? 68).map (fun i=>(i.zero,i.size,i.bytes))=some (some (.agg (hA he0)),21,168):=by kernel_rfl
theorem own:ownKnob Tryz.prog.godebug=none:=by kernel_rfl
theorem laidOut:laidOutB Tryz.prog=true:=by kernel_rfl
theorem inner(sh0 wi0 ra0 ta0:Int)(A B C:Option Addr)(N M K c d f:Nat)(nd:List (Int×Int))(ac:List Int)(sy:List (Int×Int×Int×Nat))(Al:Option Addr)(nL cL:Nat)(how:Int)(w:World)
  (hN:Hid (N=nd.length))(hM:Hid (M=ac.length))(hK:Hid (K=sy.length))(hn9:(nd.length:Int)≤4611686018427387904)(ha9:(ac.length:Int)≤4611686018427387904)(hk9:(sy.length:Int)≤4398046511104)
  (hl:Hid (Nds w w.heap.size A nd))(hu:Hid (Ris w w.heap.size B ac))(hs:Hid (Btb w w.heap.size C sy))(hw:Hid (WfN nd))(hwa:Hid (WfI ac))(hws:Hid (WfS sy))(hfr:Hid (Frs w w.heap.size Al nL))(hhow:inI how):
  Calls Tryz.prog 4 #[.agg #[.int .i64 sh0,.int .i64 wi0,.int .i64 ra0,.int .i64 ta0,.slice A N c,.slice B M d,.slice C K f],.slice Al nL cL,.int .i64 how] w (MadeB true w):=by
 have U0:=κ (β w (.cells (vC sh0 wi0 ra0 ta0 A N c B M d C K f) 26));have K0:=κ (Blk.fresh w 26 (vC sh0 wi0 ra0 ta0 A N c B M d C K f))
 go_enter Tryz.func4,Tryz.ntmps4
 go_upto_region 1 with fail
 generalize w.alloc (.cells (vC sh0 wi0 ra0 ta0 A N c B M d C K f) 26)=w0 at U0 K0 ⊢;generalize w.heap.size=g0 at K0 ⊢;obtain⟨k0,k1,k2,k3,k4,k5,k6⟩:=c7_of K0.out
 go_wp2_with fail
 refine(ref_any sh0 wi0 ra0 ta0 A B C c d f N M K nd ac sy _ hN hM hK (Rd.below' hl.out U0.out U0.out.size) (Rd.below' hu.out U0.out U0.out.size) (Rd.below' hs.out U0.out U0.out.size) (by rw[hK.out];exact hk9)).mono ?_;rintro e w1 ⟨A1,B1,C1,c1,d1,f1,rfl,aS,ay,cD,cE⟩;have U1:=κ (CrdB.below_step U0.out cE);have HN:=κ aS;have HU:=κ ay;have HS:=κ cD;clear k0 k1 k2 k3 k4 k5 k6 K0 U0 aS ay cD cE
 go_wp2_with fail
 refine(fixd_any sh0 wi0 ra0 ta0 A1 B1 C1 c1 d1 f1 nd ac sy _ HN HU HS hw hwa hws hn9 ha9 (by omega)).mono ?_;rintro e w2 ⟨sh,wi,ra,ta,ap,aq,ag,D,cF,A2,B2,C2,c2,d2,f2,rfl,aE,az,cG,cH⟩;obtain⟨nl,aT⟩:=ν ap.length;obtain⟨al,aj⟩:=ν aq.length;obtain⟨sl,aU⟩:=ν ag.length;have L1:=κ aT;have L2:=κ aj;have L3:=κ aU;have l1:nl≤10:=by rw[aT];exact D.n2
 have l2:al≤5:=by rw[aj];exact D.a2
 have l3:sl≤3:=by rw[aU];exact D.s2
 obtain⟨Z,dT⟩: ∃Z:Nat,sh=Z:=⟨sh.toNat,by have:=D.h1;omega⟩;have eC:Z≤3:=by have:=D.h2;omega
 have cI:Hid (1≤Z):=κ (by have:=D.h1;omega);have cJ:=κ D.cfg;have V0:=κ (Vp_begin D.cfg cF D.n1 (by have:=D.n2;omega) D.ws D.wa);have bG:=κ D.wn;subst dT;simp only[←aT,←aj,←aU];have V2:=β w2 (.cells (vC (Z:Int) wi ra ta A2 nl c2 B2 al d2 C2 sl f2) 31);have K2:=κ (Blk.fresh w2 31 (vC (Z:Int) wi ra ta A2 nl c2 B2 al d2 C2 sl f2));have U2:=κ (CrdB.below_step (CrdB.below_step U1.out cH) V2);have N2:=θ aE V2;have R2:=η az V2;have S2:Hid (Smb (w2.alloc (.cells (vC (Z:Int) wi ra ta A2 nl c2 B2 al d2 C2 sl f2) 31)) (w2.alloc (.cells (vC (Z:Int) wi ra ta A2 nl c2 B2 al d2 C2 sl f2) 31)).heap.size C2 ag):=Rd.below' cG V2 V2.size;clear HN HU HS U1 cH aE az cG V2 aT aj aU D cF
 go_upto_region 2 with fail
 generalize w2.alloc (.cells (vC (Z:Int) wi ra ta A2 nl c2 B2 al d2 C2 sl f2) 31)=w3 at K2 U2 N2 R2 S2 ⊢;generalize w2.heap.size=gC at K2 ⊢;obtain⟨k0,k1,k2,k3,k4,k5,k6⟩:=c7_of K2.out
 go_wp2_with fail
 refine(rmbegin_any Z wi ra ta A2 B2 C2 nl al sl c2 d2 f2 ap aq ag w3 L1 L2 L3 N2 R2 S2 (by omega) (by omega) (by omega)).mono ?_;rintro e w4 ⟨gr,q,rfl,cK,cM,cN,bH,_⟩;have M4:=κ cK;have P4:=κ cM;have Q4:=κ cN;have U4:=κ bH;have K4:=κ (K2.out.below' bH);obtain⟨aV,cO⟩:=ν w3.heap.size;rw[←cO]at M4;have dU:Hid (w3.heap.size≤aV):=κ (by omega);clear k0 k1 k2 k3 k4 k5 k6 K2 bH cK cM cN cO;obtain⟨Y,bI⟩:=ν (bgnP (Z:Int) wi ra ta ap aq ag);rw[←bI]at V0 P4;have aW:=κ bI;clear bI;obtain⟨i0,aX,aY,aZ,a3⟩:=info_parts Hof.rout_i;obtain⟨i1,bJ,dV,dW,dX⟩:=info_parts rent_i;obtain⟨BL,cP⟩:=ν w4.heap.size;have bK:Hid (w3.heap.size≤BL):=κ (by rw[cP];exact U4.out.size);have aa:Hid (BL≤w4.heap.size):=κ (by omega);clear cP
 go_wp2_with fail
 go_loopg [9,10,11] (min nL 30) (fun g9 s9 dY dZ F=> ∃(i:Nat) (O:List Opn) (qk:Mq) (Ao:Option Addr) (co:Nat) (Aw:Option Addr) (nw cw:Nat),i+g9=min nL 30∧dZ= ι i∧s9= .slice Ao i co∧dY= .slice Aw nw cw∧Hid (O.length=i)∧Hid (plO qk=stF Y O)∧Hid (Vp i (plO qk))∧Hid (Rm aV F gr qk)∧Hid (Cq qk)∧Hid (Blk F gC 31 (vC (Z:Int) wi ra ta A2 nl c2 B2 al d2 C2 sl f2))∧Hid (nw=(allL Y O).length∧nw≤1000*i)∧Hid (World.ownsRow F BL 68 21 (.slice Ao i co) i (hrow (ownL Y 0 O)))∧Hid (World.ownsRow F BL 71 2 (.slice Aw nw cw) nw (nds (allL Y O)))∧Hid (∀z,(Value.slice Ao i co).ownBlock=some z→Mz z gr qk)∧Hid (∀z,(Value.slice Aw nw cw).ownBlock=some z→Mz z gr qk)∧Hid (BL≤F.heap.size)∧Hid (∀o∈O,inI o.m.p∧inI o.m.q∧inI o.m.t∧o.m.y≤9223372036854775807∧o.m.v≤9223372036854775807∧inI o.sx∧inI o.ex)∧Hid (Below w3.heap.size w3 F))
 case atStart=>exact⟨0,[],q,none,0,none,0,0,by omega,rfl,rfl,rfl,κ rfl,P4,κ (by rw[P4.out];exact V0.out),M4,Q4,K4,κ ⟨rfl,τ⟩,κ (World.ownsRow_nil _ _ _ _),κ (World.ownsRow_nil _ _ _ _),κ (fun z hz=>by simp[Value.ownBlock]at hz),κ (fun z hz=>by simp[Value.ownBlock]at hz),aa,κ (fun o ho=>absurd ho (by simp)),U4⟩
 case round=>
  clear P4 Q4 M4 K4 aa;obtain⟨i,O,qk,Ao,co,Aw,nw,cw,eD,rfl,rfl,rfl,ar,aF,VP,MK,CQ,KC,ah,OE,OW,ZE,ZW,aa,bL,U⟩:=hrel
  rename World=>wr
  by_cases hlt:i<min nL 30
  ·obtain⟨g9,rfl⟩: ∃g,gk=g+1:=⟨gk-1,by omega⟩;have cQ:i<nL:=by omega
   have eE:i<30:=by omega
   have t0:decide ((i:Int)<(nL:Int))=true:=by simp;omega
   have t1:decide ((i:Int)<30)=true:=by simp;omega
   have t2:(i:Int)<(nL:Int):=by omega
   obtain⟨lb,lo,rr,d0,d3,d4,d6⟩:=hfr.out i cQ;subst d0;obtain⟨⟨k,a,s,x,p,q9,n,t,i9,y,z,v⟩,wh,sw,sx,ex⟩:=rr;obtain⟨⟨_,_,_,bM,bN,_,bO,_,bP,_,bQ⟩,bR,bS,bT⟩:=d4;simp only at bM bN bO bP bQ bR bS bT;have a4:=κ bM;have a5:=κ bN;have bU:=κ bO;have bV:=κ bP.2;have bW:=κ bQ.2;have bX:=κ bS;have ab:=κ bT;have cR:=bR.2;clear bM bN bO bP bQ bR bS bT;have hq: ∀(o:Nat) (v:Value),w.cell? (α lb o)=some v→wr.cell? (α lb o)=some v:=fun o v hc=>by rw[World.cell?_of_block ((bst U2.out U.out).block lb d3)];exact hc
   obtain⟨v0,v1,v2,v3,v4,v5,v6,v7,v8,v9,a6,a7,a8,a9,ba,bb⟩:=d6;have v0:=hq _ _ v0;have v1:=hq _ _ v1;have v2:=hq _ _ v2;have v3:=hq _ _ v3;have v4:=hq _ _ v4;have v5:=hq _ _ v5;have v6:=hq _ _ v6;have v7:=hq _ _ v7;have v8:=hq _ _ v8;have v9:=hq _ _ v9;have a6:=hq _ _ a6;have a7:=hq _ _ a7;have a8:=hq _ _ a8;have a9:=hq _ _ a9;have ba:=hq _ _ ba;have bb:=hq _ _ bb;clear hq;simp only at v0 v1 v2 v3 v4 v5 v6 v7 v8 v9 a6 a7 a8 a9 ba bb;have SV:=κ (rq_of MK.out VP.out);have cS:qk.nb≤1000:=by have h1:=SV.out.1.nb;have h2:=SV.out.1.sh;omega
   have cT:Hid (∀k,k<qk.xs.length→(gX qk.xs k).b.op.length≤1000):=κ (fun k hk=>((((VP.out.bk _ (gX_mem hk)).1.1).few (by omega)).ol))
   go_wp2_with fail
   refine(fix9_any aV gr qk k a s p q9 n t i9 y z v wh sx ex x sw wr MK cS cT cR).mono ?_;rintro e bc ⟨j,rfl,cU⟩;have au:=bst cU (β bc (.cells (vP k a s x p q9 n t j y z v sw sx ex) 59));have aG:=κ (Blk.fresh bc 59 (vP k a s x p q9 n t j y z v sw sx ex));have ak:=κ (Rm_below MK.out au);have bY:=κ (KC.out.below' au);have bd:=own_below OE au;have be:=own_below OW au;have bZ:=κ (Nat.le_trans aa.out au.size);have b0:=κ (bst U.out au);clear v0 v1 v2 v3 v4 v5 v6 v7 v8 v9 a6 a7 a8 a9 ba bb cU au t0 t1 t2 cS cT MK KC OE OW aa U cR
   go_upto_region 9 with fail
   generalize bc.alloc (.cells (vP k a s x p q9 n t j y z v sw sx ex) 59)=d7 at aG ak bY bd be bZ b0 ⊢;generalize bc.heap.size=gO at aG ⊢;obtain⟨o0,o1,o2,o3,o4,o5,o6,o7,o8,o9,b1,b3,b4,b5,b6⟩:=c15_of aG.out;obtain⟨o,ho⟩: ∃o:Opn,o=⟨⟨k,a,s,x,p,q9,n,t,j,y,z,v⟩,sw,sx,ex⟩:=⟨_,rfl⟩;have bf:=κ (Vp_do VP.out o (by rw[ho];exact bU.out) (by rw[ho];exact a4.out) (by rw[ho];exact a5.out));have DO:=κ (do_outs VP.out (by omega) o);have aA:=VP.out.ep;have aH:=rmdo_any aV gr i qk k a s p q9 n t j y z v sx ex x sw d7 ak (κ SV.out.1) (by omega) (κ SV.out.2) ⟨aA.1,by have:=aA.2;show(plO qk).ep≤_;omega⟩ a4.out a5.out bV.out bW.out bX.out ab.out.1 ab.out.2 CQ (fun w0=>Wry.rright_any ⟨k,a,s,x,p,q9,n,t,j,y,z,v⟩ w0);rw[←ho]at aH;have cV:=κ (st_snoc O Y o);have b7:Hid (ownL Y 0 (O++[o])=ownL Y 0 O++[entO (plO qk) i o]):=κ (by rw[own_snoc,aF.out,ar.out,Nat.zero_add]);have aI:Hid (allL Y (O++[o])=allL Y O++(doF (plO qk) o).2.2.2):=κ (by rw[all_snoc,aF.out]);have aJ:Hid (entO (plO qk) i o=⟨((i%3:Nat):Int),2*(i:Int),2*(i:Int)+1,2*(i:Int)+2,⟨k,a,s,x,p,q9,n,t,j,y,z,v⟩,sw,sx,ex,(doF (plO qk) o).2.1,(doF (plO qk) o).2.2.1⟩):=κ (by rw[ho];rfl);have bg:Hid ((doF (stF Y O) o).1=(doF (plO qk) o).1):=κ (by rw[aF.out])
   have d8:Hid (∀o'∈O++[o],inI o'.m.p∧inI o'.m.q∧inI o'.m.t∧o'.m.y≤9223372036854775807∧o'.m.v≤9223372036854775807∧inI o'.sx∧inI o'.ex):=κ (fun o' h'=>by
    rcases List.mem_append.1 h' with h'|h'
    ·exact bL.out o' h'
    ·rw[List.mem_singleton.1 h',ho];exact⟨a4.out,a5.out,bU.out,bV.out,bW.out,bX.out,ab.out⟩)
   generalize entO (plO qk) i o=en at b7 aJ;generalize doF (plO qk) o=R at aH bf DO aI aJ bg;obtain⟨P1,cd,id,cW⟩:=R;simp only at aH bf DO aI aJ bg;clear ho VP aF bL a4 a5 bU bV bW bX ab
   go_wp2_with fail
   refine aH.mono ?_;rintro e bh ⟨q1,eF,n2,eG,rfl,aE,cX,_,hM,hP,hA,hK,hZ,cY⟩;have cZ:=κ (blk_dor aG.out ak.out (by decide) (by decide) hK);have c0:=κ (blk_dor bY.out ak.out (by decide) (by decide) hK);have c3:=κ (own_kpr bd.out ak.out (by decide) (by decide) hK);have c4:=κ (own_kpr be.out ak.out (by decide) (by decide) hK);have b8:Hid (∀z,(Value.slice Ao i co).ownBlock=some z→Mz z gr q1):=κ (fun z hz=>hZ z (World.ownsRow.lt bd.out z hz).2 (ZE.out z hz));have ca:Hid (∀z,(Value.slice Aw nw cw).ownBlock=some z→Mz z gr q1):=κ (fun z hz=>hZ z (World.ownsRow.lt be.out z hz).2 (ZW.out z hz));have c7:=κ (Nat.le_trans bZ.out hK.size);have c8:=κ (below_kpr b0.out ak.out hK dU.out);have bi:=κ aE;have c9:=κ cX;have da:=κ hM;have cb:=κ hP;have d9:=κ cY;clear o0 o1 o2 o3 o4 o5 o6 o7 o8 o9 b1 b3 b4 b5 b6 aH aE cX hM hP hA hK hZ cY aG ak bY bd be bZ b0 ZE ZW SV CQ aA;have ub:=β bh (.cells (vI cd id) 64);have bj:=κ (Blk.fresh bh 64 (vI cd id));have cc:=κ (cZ.out.below' ub);have ce:=κ (c0.out.below' ub);have cf:=own_below c3 ub;have ai:=own_below c4 ub;have cg:=θ c9.out ub;have bl:=κ (Rm_below da.out ub);have bm:=κ (Nat.le_trans c7.out ub.size);have bn:=κ (bst c8.out ub);clear ub cZ c0 c3 c4 c9 da c7 c8
   go_upto_region 10 with fail
   generalize bh.alloc (.cells (vI cd id) 64)=eH at bj cc ce cf ai cg bl bm bn ⊢;generalize bh.heap.size=gA at bj ⊢;have HL:Hid ((nds cW).length=n2*2):=κ (by rw[nds_len,bi.out]);have ea:n2≤1000:=by rw[bi.out];exact DO.out
   have eb:nw≤90000:=by have:=ah.out.2;omega
   have bo:Hid (nw+n2≤maxLen∧(nw+n2)*16≤140737488355328∧nw+n2≤1000*(i+1)):=κ ⟨by unfold maxLen;omega,by omega,by have:=ah.out.2;omega⟩;clear ea eb
   go_upto_region 11 with(at_builtin;refine wpList_appB (nm:=nw+n2) ai cg rfl rfl _ _ _ rfl i0 (.agg #[.int .i64 0,.int .i64 0]) 16 Tryz.underlying28 aX aY aZ a3 rfl (by decide) rfl rfl HL.out (nds_one cW) bo.out.1 bo.out.2.1 bm.out ?_;intro A5 c5 w5 dc am dd)
   have M5:=κ (rm_grown bl.out ai.out (by decide) (by decide) am.out ca.out);have ec:=κ (mz_push dd.out ca.out (Rz_of bl.out τ));have K5:=κ (blk_own_grown ce.out ai.out (by decide) am.out);have B5:=κ (blk_own_grown cc.out ai.out (by decide) am.out);have de:=κ (blk_own_grown bj.out ai.out (by decide) am.out);have E5:=κ (own_grown cf.out ai.out (by decide) am.out);have U5:=κ (grown_below bn.out ai.out am.out bK.out bn.out.size);have df:=κ (Nat.le_trans bm.out am.out.size);have W5:Hid (World.ownsRow w5 BL 71 2 (.slice A5 (nw+n2) c5) (nw+n2) (nds (allL Y (O++[o])))):=κ (by have h:=dc.out;rw[aI.out,nds_app];exact h);have ed:Hid (nw+n2=(allL Y (O++[o])).length∧nw+n2≤1000*(i+1)):=κ ⟨by rw[aI.out,List.length_append,ah.out.1,bi.out],bo.out.2.2⟩;clear dc am dd bl ai ca ce cc bj cf bn bm cg HL bo ah bi aI DO;obtain⟨o0,o1,o2,o3,o4,o5,o6,o7,o8,o9,b1,b3,b4,b5,b6⟩:=c15_of B5.out;obtain⟨a0,a1,_,_⟩:=Mds.q2b de.out;have r3:(i:Int).tmod 3=((i%3:Nat):Int):=by rw[Int.tmod_eq_emod_of_nonneg (by omega)];omega
   have m1:wrap64 (2*(i:Int))=2*(i:Int):=w64 (by omega) (by omega);have m2:wrap64 (2*(i:Int)+1)=2*(i:Int)+1:=w64 (by omega) (by omega);have m3:wrap64 (2*(i:Int)+2)=2*(i:Int)+2:=w64 (by omega) (by omega);have ub:=β w5 (.cells (hv en).toArray 68);have RN:=Htd.rd_new w5 68 (hv en);have EN:=own_below E5 ub;have LN:=Nat.le_trans df.out ub.size;have H1:Hid (∀u∈hv en,u.oneCell'=true):=κ (fun u hu=>hrow_one [en] u (by simpa[hrow] using hu));have dg:Hid (hrow (ownL Y 0 (O++[o]))=hrow (ownL Y 0 O)++hv en):=κ (by rw[b7.out,hrow_snoc]);have H7:Hid (i+1≤maxLen∧(i+1)*168≤140737488355328):=κ ⟨by unfold maxLen;omega,by omega⟩;have ee:=aJ.out;subst ee
   go_wp2_with (at_builtin;refine wpList_appB (nm:=i+1) EN (κ RN) rfl rfl _ _ _ rfl i1 (.agg (hA he0)) 168 Tryz.underlying27 bJ dV dW dX rfl (by decide) rfl rfl rfl H1.out H7.out.1 H7.out.2 LN ?_;intro A6 c6 w6 dh aB di)
   have MB:=Rm_below M5.out ub;have M6:=κ (rm_grown MB EN.out (by decide) (by decide) aB.out b8.out);have ef:=κ (mz_push di.out b8.out (Rz_of MB τ));have K6:=κ (blk_own_grown (K5.out.below' ub) EN.out (by decide) aB.out);have W6:=κ (own_grown (own_below W5 ub).out EN.out (by decide) aB.out);have U6:=κ (grown_below (bst U5.out ub) EN.out aB.out bK.out (bst U5.out ub).size);have L6:=κ (Nat.le_trans LN aB.out.size);have E6:Hid (World.ownsRow w6 BL 68 21 (.slice A6 (i+1) c6) (i+1) (hrow (ownL Y 0 (O++[o])))):=κ (by rw[dg.out];exact dh.out);have eg:Hid ((O++[o]).length=i+1):=κ (by rw[List.length_append,ar.out];rfl);have eh:Hid (plO q1=stF Y (O++[o])):=κ (by rw[cb.out,cV.out,bg.out]);have ei:Hid (Vp (i+1) (plO q1)):=κ (by rw[cb.out];exact bf.out);clear MB M5 b8 K5 W5 U5 E5 EN RN LN df dh aB di ub dg H1 H7 aJ b7 cV bg o0 o1 o2 o3 o4 o5 o6 o7 o8 o9 b1 b3 b4 b5 b6 a0 a1 B5 de cb bf ar
   go_wp2_with fail
   go_roundg g9
   case measure=>omega
   case rel=>exact⟨i+1,O++[o],q1,A6,c6,A5,nw+n2,c5,by omega,by go_num,rfl,rfl,eg,eh,ei,M6,d9,K6,ed,E6,W6,ef,ec,L6,d8,U6⟩
  ·have dj:Hid (i=min nL 30):=κ (by omega)
   go_upto_region 6 with fail
   go_cut [34] (fun s6 wx=>s6= .bool false∧wx=wr)
   case first=>
    by_cases cQ:i<nL
    ·have t0:decide ((i:Int)<(nL:Int))=true:=by simp;omega
     have t1:decide ((i:Int)<30)=false:=by simp;omega
     go_wp2_with fail
     go_meet;exact⟨rfl,rfl⟩
    ·have t0:decide ((i:Int)<(nL:Int))=false:=by simp;omega
     go_wp2_with fail
     go_meet;exact⟨rfl,rfl⟩
   case rest=>
    obtain⟨rfl,rfl⟩:=hcut
    rename World=>wl
    have HN:Hid (i≤30):=κ (by have:=dj.out;omega);obtain⟨own,bp⟩: ∃l,l=ownL Y 0 O:=⟨_,rfl⟩;rw[←bp]at OE;have dk:=κ bp;have av:Hid (own.length=i):=κ (by rw[bp,own_len,ar.out]);clear bp MK CQ ZE ZW aF VP dj;have dl:Hid (own.take 0++swp (own.drop 0)=swp own):=κ rfl
    go_wp2_with fail
    go_loopg [15] (i+2) (fun ek el F=> ∃(j:Nat) (H:List He),j+ek=i+2∧el= ι j∧Hid (H.length=i)∧Hid (H.take j++swp (H.drop j)=swp own)∧Hid (World.ownsRow F BL 68 21 (.slice Ao i co) i (hrow H))∧Hid (World.ownsRow F BL 71 2 (.slice Aw nw cw) nw (nds (allL Y O)))∧Hid (Blk F gC 31 (vC (Z:Int) wi ra ta A2 nl c2 B2 al d2 C2 sl f2))∧Hid (BL≤F.heap.size)∧Hid (Below w3.heap.size w3 F))
    case atStart=>exact⟨0,own,by omega,rfl,av,dl,OE,OW,KC,aa,U⟩
    case round=>
     clear dl OE OW KC aa U;obtain⟨j,H,hj,rfl,J,bq,OE,OW,KC,aa,U⟩:=hrel
     rename World=>wq
     have hN:=HN.out;have ej:wrap64 ((j:Int)+1)=((j+1:Nat):Int):=by rw[w64 (by omega) (by omega)];rfl
     obtain⟨j1,br⟩: ∃n,n=j+1:=⟨_,rfl⟩;rw[←br]at ej;by_cases hlt:j1<i
     ·have t0:decide ((j1:Int)<(i:Int))=true:=by simp;omega
      have t1:(j1:Int)<(i:Int):=by omega
      have t2:(j:Int)<(i:Int):=by omega
      obtain⟨g,rfl⟩:=Bko.own_at OE.out (by omega);have er:IntKind.i64.wrap ((j:Int)+1)=(j1:Int):=by rw[IntKind.wrap_i64];omega
      have FR:=World.ownsRow.lt OE.out g rfl
      have ha:H21 wq g (j*21) (gH H j):=by
       obtain⟨b9,o9,af,_,ch⟩:=hes_at (Rd.of_own OE.out) (by rw[J.out];omega);injection af with af
       injection af with h1 h2
       have h3:=ch j (by rw[J.out];omega);rw[←h1,←h2,Nat.zero_add]at h3;exact h3
      have hb:H21 wq g (j1*21) (gH H j1):=by
       obtain⟨b9,o9,af,_,ch⟩:=hes_at (Rd.of_own OE.out) (by rw[J.out];omega);injection af with af
       injection af with h1 h2
       have h3:=ch j1 (by rw[J.out];omega);rw[←h1,←h2,Nat.zero_add]at h3;exact h3
      go_upto_region 15 with fail
      let T:World→Prop:=fun F=>H21 F g (j*21) (gH H j)∧H21 F g (j1*21) (gH H j1)
      have I:Hid (T wq.drew):=κ ⟨ha,hb⟩;have HJ:=κ br;clear ha hb br FR;refine Ω T [15,17] ?_;refine jA 0 I.out ?_;refine jA 1 I.out ?_;refine jA 2 I.out ?_;refine jA 3 I.out ?_;refine jA 4 I.out ?_;refine jA 5 I.out ?_;refine jA 6 I.out ?_;refine jA 7 I.out ?_;refine jA 8 I.out ?_;refine wpL_load (i:=9) (v:= .agg (hA (gH H j1))) rfl (by kernel_rfl) (fun _ _ _ h=>h) (by kernel_rfl) (by kernel_rfl) _ _ _ _ (by kernel_rfl) (by kernel_rfl) (Or.inl ⟨by rfl,fun F hS=>ex_ld rfl rfl (Hrr.ldr21 hS.2)⟩) (by kernel_rfl) I.out ?_;refine jP ?_;refine jA 10 I.out ?_;refine jA 11 I.out ?_;refine jA 12 I.out ?_;refine wpL_load (i:=13) (v:= .agg (hA (gH H j))) rfl (by kernel_rfl) (fun _ _ _ h=>h) (by kernel_rfl) (by kernel_rfl) _ _ _ _ (by kernel_rfl) (by kernel_rfl) (Or.inl ⟨by rfl,fun F hS=>ex_ld rfl rfl (Hrr.ldr21 hS.1)⟩) (by kernel_rfl) I.out ?_;refine jP ?_;refine jA 14 I.out ?_;have OD:Hid (World.ownsRow wq.drew BL 68 21 (.slice (some (α g 0)) i co) i (hrow H)):=OE;have O1:=κ (own_put OD.out (show j<H.length by rw[J.out];omega) (gH H j1));have O2:=κ (own_put O1.out.1 (show j1<(H.set j (gH H j1)).length by rw[List.length_set,J.out];exact hlt) (gH H j));refine jV 15 fun K' hK=>?_
      refine ex_st rfl rfl rfl rfl (put21 OD.out (by rw[J.out];omega) (gH H j1)) ?_;refine hK.out _ _ ?_;clear hK K';refine jP ?_;refine wpL_word (i:=16) (v:=?_) rfl (by kernel_rfl) (fun _ _ _ h=>h) (by kernel_rfl) _ _ _ _ (by kernel_rfl) (by kernel_rfl) (Or.inl ⟨by rfl,?_⟩) (fun h=>absurd h (by decide+kernel)) ?_;rotate_left
      ·intro F _;go_simp
       with_reducible rfl
      refine jP ?_;have Z1:=κ (put21 O1.out.1 (show j1<(H.set j (gH H j1)).length by rw[List.length_set,J.out];exact hlt) (gH H j));generalize wq.drew.setCells g (j*21) (hv (gH H j1))=wA at Z1 O1 O2 ⊢;refine jV 17 fun K' hK=>?_
      refine ex_st rfl rfl rfl rfl Z1.out ?_;refine hK.out _ _ ?_;clear hK K';refine jP ?_;refine Δ ?_;have G:=Bku.grown_trans O1.out.2 O2.out.2;have OX:=κ O2.out.1;have dm:=κ (own_grown (show World.ownsRow wq.drew BL 71 2 (.slice Aw nw cw) nw (nds (allL Y O)) from OW.out) OD.out (by decide) G);have KX:=κ (blk_own_grown (show Blk wq.drew gC 31 (vC (Z:Int) wi ra ta A2 nl c2 B2 al d2 C2 sl f2) from KC.out) OD.out (by decide) G);have UX:=κ (grown_below (U.out.drew) OD.out G bK.out (show w3.heap.size≤wq.heap.size from U.out.size));have BX:=κ (Nat.le_trans (show BL≤wq.drew.heap.size from aa.out) G.size);generalize wA.setCells g (j1*21) (hv (gH H j))=w7 at OX dm KX UX BX ⊢;have em:Hid (((H.set j (gH H j1)).set j1 (gH H j)).length=i):=κ (by rw[List.length_set,List.length_set];exact J.out);have eo:Hid (((H.set j (gH H j1)).set j1 (gH H j)).take (j+2)++swp (((H.set j (gH H j1)).set j1 (gH H j)).drop (j+2))=swp own):=κ (by rw[HJ.out,swp_step (by rw[J.out,←HJ.out];exact hlt)];exact bq.out);clear Z1 O1 O2 OD G I OE OW KC U aa J bq er ej
      go_wp2_with fail
      go_roundg (gk-2)
      case measure=>omega
      case rel=>exact⟨j+2,_,by omega,by go_num,em,eo,OX,dm,KX,BX,UX⟩
     ·have t0:decide ((j1:Int)<(i:Int))=false:=by simp;omega
      have HD:Hid (H=swp own):=κ (by rw[←bq.out,swp_done (by rw[J.out];omega)]);have eq:=HD.out;subst eq;have bs:=own_chk (O:=O) (P:=Y) (by rw[ar.out];omega);rw[←dk.out]at bs;have ci:Hid (swp own=swp (ownL Y 0 O)):=κ (by rw[dk.out]);obtain⟨E,dn⟩: ∃l,l=swp own:=⟨_,rfl⟩;rw[←dn]at OE J bs ci;have ad:=κ bs;clear dn bq HD bs ej t0 av;obtain⟨r,cj⟩: ∃l,l=allL Y O:=⟨_,rfl⟩;rw[←cj]at OW ah ad;have eI:=κ cj;clear cj;have RE:Hid (Rd wq wq.heap.size Ao (hrow E)):=κ (Rd.of_own OE.out);have RW:Hid (Nds wq wq.heap.size Aw r):=κ (Rd.of_own OW.out)
      have dp:Hid (∀k,k<E.length→gH E k∈ownL Y 0 O):=κ (fun k hk=>by
       have h1:=List.getElem_mem hk
       rw[←Hqp.gH_get hk]at h1
       rw[ci.out]at h1 ⊢
       exact(swp_perm _).mem_iff.1 h1)
      have ab:Hid (WfE E):=κ (fun k hk=>by
       obtain⟨o,h1,h2,h3,h4⟩:=own_mem O Y 0 _ (dp.out k hk)
       obtain⟨w1,w2,w3,w4,w5,w6,w7⟩:=bL.out o h1
       exact⟨by rw[h2];exact w1,by rw[h2];exact w2,by rw[h2];exact w3,by rw[h2];exact w4,by rw[h2];exact w5,by rw[h3];exact w6,by rw[h4];exact w7⟩)
      have bt:Hid (WfH E):=κ (fun k hk=>by
       obtain⟨_,_,h1,h2⟩:=own_ok O Y 0 _ (dp.out k hk)
       rw[ar.out]at h2
       have h3:=HN.out
       simp at h1 h2
       exact⟨by omega,by omega⟩)
      have bJ:=J.out;subst bJ;have aS:=ah.out.1;subst aS;have es:Hid (r.length≤cw):=κ (Hof.own_cap OW.out);clear OE OW
      go_wp2_with fail
      refine(entries_any E Ao co wq RE (by have:=HN.out;omega)).mono ?_;rintro e w8 ⟨Ax,cx,rfl,dq,aK⟩;clear hj br hlt hN;have dr:Hid (w3.heap.size≤wq.heap.size):=κ U.out.size;have OX:=κ dq;have U8:=κ (bst U.out aK);have K8:=κ (KC.out.below' aK);have ds:=θ RW.out aK;have L8:=κ (Nat.le_trans aa.out aK.size);clear dq aK U KC RW aa RE;have N8:=θ N2.out U8.out;have R8:=η R2.out U8.out;have S8:Hid (Smb w8 w8.heap.size C2 ag):=κ (Rd.below' S2.out U8.out U8.out.size);obtain⟨k0,k1,k2,k3,k4,k5,k6⟩:=c7_of K8.out;have bu:=Rul6.to5_own (Z:Int) wi ra ta A2 B2 C2 c2 d2 f2 ap aq ag w8 N8 R8 S8 bG (by rw[←L1.out];omega) (by rw[←L2.out];omega) (by rw[←L3.out];omega);unfold Rul6.MadeCw at bu;rw[←L1.out,←L2.out,←L3.out]at bu
      go_wp2_with fail
      refine bu.mono ?_;rintro e w9 ⟨A5,B5,C5,c5,d5,f5,rfl,dt,du,dv,af⟩;have V9:=β w9 (.cells (vC (Z:Int) wi ra ta A5 nl c5 B5 al d5 C5 sl f5) 43);have bv:=κ (Cg.mk (Blk.fresh w9 43 (vC (Z:Int) wi ra ta A5 nl c5 B5 al d5 C5 sl f5)) (own_below (κ dt) V9).out (own_below (κ du) V9).out (own_below (κ dv) V9).out);have VX:=bst af V9;have O9:=own_below OX VX;have W9:=θ ds.out VX;have U9:=κ (bst U8.out VX);clear bu dt du dv af V9 VX k0 k1 k2 k3 k4 k5 k6 N8 R8 S8 K8 OX ds U8 L8
      go_upto_region 18 with fail
      generalize w9.alloc (.cells (vC (Z:Int) wi ra ta A5 nl c5 B5 al d5 C5 sl f5) 43)=wA at bv O9 W9 U9 ⊢;generalize w9.heap.size=L at bv ⊢
      have ck:Hid (∀v∈r,0≤v.2):=κ (by
       rw[←ad.out.2.1]
       refine let_ids E _ 0 Y (by rw[aW.out];exact ip_begin _ _ _ _ _ _ _) V0.out (fun k=>?_)
       by_cases hk:k<E.length
       ·exact⟨(ab.out k hk).t,(ab.out k hk).p,(ab.out k hk).q⟩
       ·have e:gH E k=he0:=by unfold gH;rw[List.getD,List.getElem?_eq_none (by omega)];rfl
        rw[e];exact⟨⟨by decide,by decide⟩,⟨by decide,by decide⟩,by decide,by decide⟩)
      obtain⟨G,hG⟩: ∃G:World→Prop,∀w,G w=Cg w (w8.heap.size+2) L (vC (Z:Int) wi ra ta A5 nl c5 B5 al d5 C5 sl f5) A5 B5 C5 nl al sl c5 d5 f5 ap aq ag:=⟨_,fun _=>rfl⟩;have GA:Hid (G wA):=κ (cast (hG _).symm bv.out);have GB:Hid (∀w F,G w→Below w.heap.size w F→G F):=κ (fun w F h hb=>cast (hG _).symm ((cast (hG _) h).below hb));have GG:Hid (∀w F b2 n v xs,G w→World.ownsRow w b2 81 21 v n xs→w.grownBy F v.ownBlock→G F):=κ (fun w F b2 n v xs h k g=>cast (hG _).symm ((cast (hG _) h).grown k g));have GT:Hid (∀W,G W→W.cell? (α L 0)=some (ι (Z:Int))∧W.cell? (α L 1)=some (ι wi)∧W.cell? (α L 2)=some (ι ra)∧W.cell? (α L 3)=some (ι ta)∧W.cell? (α L 4)=some (.slice A5 nl c5)∧W.cell? (α L 5)=some (.slice B5 al d5)∧W.cell? (α L 6)=some (.slice C5 sl f5)):=κ (fun W h=>c7_of (cast (hG _) h).k);have CK:=fun W (h:G W) (H:List He) h1 h2 h3 h4=>hchk_any 3 H Z wi ra ta A5 B5 C5 Ax nl al sl c5 d5 f5 cx ap aq ag W L1 L2 L3 (cast (hG _) h).N (cast (hG _) h).R (cast (hG _) h).S bG (by omega) (by omega) (by omega) cJ (by rw[←aW.out];exact V0) h1 h2 h3 h4
      have CQ:=fun W (h:G W) (cl:List (Int×Int)) Aq cq h0 h4 h5=>hque_any 3 E cl Z wi ra ta A5 B5 C5 Ax Aq nl al sl c5 d5 f5 cx cq ap aq ag W L1 L2 L3 (cast (hG _) h).N (cast (hG _) h).R (cast (hG _) h).S bG (by omega) (by omega) (by omega) cJ (by rw[←aW.out];exact V0) h0 bt ab (by have:=HN.out;omega) h4 h5
      rw[←aW.out]at CK CQ;have cm:=κ CK;have cn:=κ CQ;clear CK CQ bv hG;have aC:Hid (∀W,Below wA.heap.size wA W→W.cell? (α L 0)=some (ι (Z:Int))∧W.cell? (α L 1)=some (ι wi)∧W.cell? (α L 2)=some (ι ra)∧W.cell? (α L 3)=some (ι ta)∧W.cell? (α L 4)=some (.slice A5 nl c5)∧W.cell? (α L 5)=some (.slice B5 al d5)∧W.cell? (α L 6)=some (.slice C5 sl f5)):=κ (fun W hb=>GT.out W (GB.out _ _ GA.out hb))
      go_cut [110] (fun s6 wx=>s6= .bool false∧Hid (Below wA.heap.size wA wx))
      case first=>
       have CK:=fun W hb=>cm.out W (GB.out wA W GA.out hb)
       have CQ:=fun W hb=>cn.out W (GB.out wA W GA.out hb)
       let T:World→Prop:=fun F=>F.cell? (α L 0)=some (ι (Z:Int))∧F.cell? (α L 1)=some (ι wi)∧F.cell? (α L 2)=some (ι ra)∧F.cell? (α L 3)=some (ι ta)∧F.cell? (α L 4)=some (.slice A5 nl c5)∧F.cell? (α L 5)=some (.slice B5 al d5)∧F.cell? (α L 6)=some (.slice C5 sl f5)
       have I:Hid (T wA.drew):=κ (aC.out _ (Below.drew ψ));have HD:=κ (Below.drew (Below.refl wA.heap.size wA));have dw:=fun W hb h1=>CK W hb E h1 bt ab (by have:=HN.out;omega)
       rw[ad.out.1]at dw;have CO:=fun W (hb:Below wA.heap.size wA W)=>outs_any r Aw cw W (θ W9.out hb) (by have h1:=ah.out.2;have h2:=HN.out;omega)
       have aD:=fun W hb Aq cq h0 h4=>CQ W hb r Aq cq h0 h4 (by have h1:=ah.out.2;have h2:=HN.out;omega)
       rw[que_own ad.out.2.2.1 ad.out.2.1 ad.out.2.2.2.1,all_ok ck.out,que_same]at aD;have en:((-1:Int) != (-1:Int))=false:=by decide
       clear CK CQ;refine Ω T [] ?_;refine jN 0 fun K' hK=>?_
       go_simp;refine(told10_any _).mono ?_;rintro e wB ⟨rfl,aL⟩;have B1:=κ (bst HD.out aL);have an:=κ (aC.out _ B1.out);clear aL
       go_wp2_with fail
       refine hK.out _ _ an.out ?_;clear hK K';refine jP ?_;refine jA 1 an.out ?_;refine jA 2 an.out ?_;refine jB 3 an.out ?_;refine jA 4 an.out ?_;refine jN 5 fun K' hK=>?_
       go_simp;refine(dw _ B1.out (κ (Rd.of_own (own_below O9 B1.out).out))).mono ?_;rintro e wC ⟨rfl,aM⟩;have B2:=κ (bst B1.out aM);have Q:=κ (aC.out _ B2.out);clear aM
       go_wp2_with fail
       refine hK.out _ _ Q.out ?_;clear hK K';refine jP ?_;refine jA 6 Q.out ?_;refine jA 7 Q.out ?_;refine jA 8 Q.out ?_;refine jB 9 Q.out ?_;refine jA 10 Q.out ?_;refine jA 11 Q.out ?_;refine jN 12 fun K' hK=>?_
       go_simp;refine(CO _ B2.out).mono ?_;rintro e wE ⟨Aq,cq,rfl,aN,aO,_⟩;have B3:=κ (bst B2.out aO);have bw:=κ (aC.out _ B3.out);have NQ:=κ aN;clear aO aN
       go_wp2_with fail
       refine hK.out _ _ bw.out ?_;clear hK K';refine jP ?_;refine jN 13 fun K' hK=>?_
       go_simp;refine(aD _ B3.out Aq cq (κ (Rd.of_own (own_below O9 B3.out).out)) NQ).mono ?_;rintro e wF ⟨rfl,dx⟩;have B4:=κ (bst B3.out dx);have aw:=κ (aC.out _ B4.out);clear dx
       go_wp2_with fail
       refine hK.out _ _ aw.out ?_;clear hK K';refine jP ?_;refine jA 14 aw.out ?_;refine jA 15 aw.out ?_;refine Δ ?_
       go_wp2_with fail
       go_meet;exact⟨rfl,B4⟩
      case rest=>
       obtain⟨rfl,UC⟩:=hcut
       rename World=>wG
       have GW:=κ (GB.out wA _ GA.out UC.out);have RQ:=θ W9.out UC.out;have OQ:=own_below O9 UC.out;have UG:=κ (bst U9.out UC.out);have et:=HN.out;have eu:=ah.out.2;clear W9 O9 U9 UC GA aC;by_cases aj:r.length=0
       case' pos=>
        have t0:decide ((0:Int)<(r.length:Int))=false:=decide_eq_false (by omega);have cp:=GW;have OT:=OQ;have UT:=UG
        go_upto_region 27 with fail
        clear t0 aj
       case' neg=>
        have t0:decide ((0:Int)<(r.length:Int))=true:=decide_eq_true (by omega);have bx:0<r.length:=Nat.pos_of_ne_zero aj;obtain⟨k,V,HK⟩:=pick_k how bx (by omega);obtain⟨b,o,aP,_,_⟩:=Nds.at RQ.out bx;have ae:=κ V;have ev:=es.out;have ew:IntKind.i64.wrap ((k:Int)+1)=(k:Int)+1:=by rw[IntKind.wrap_i64];omega
        have cr:Hid (0≤nC r k):=κ (by have h:=ck.out _ (List.getElem_mem V);simpa[nC,V] using h);obtain⟨X,cs,hX⟩:=sl_back aP r.length cw (k+1) (by omega) (by omega);have ey:=sl_front aP r.length cw k (by omega);have HA:=κ (nds_cut aP RQ.out (k:=k) (by omega)).1
        have HB:Hid (Nds wG wG.heap.size X (r.drop (k+1))):=κ (by
         by_cases h9:k+1<cw
         ·rw[hX h9];exact(nds_cut aP RQ.out (by omega)).2
         ·rw[List.drop_eq_nil_of_le (by omega)];exact .inl rfl)
        rw[show((k+1:Nat):Int)=(k:Int)+1 by omega]at cs;obtain⟨nb,bz⟩:=ν (r.length-(k+1));obtain⟨db,dy⟩:=ν (cw-(k+1));rw[←bz,←dy]at cs;have dz:Hid ((nds (r.take k)).length=k*2):=κ (by rw[nds_len,List.length_take,Nat.min_eq_left (by omega)]);have dA:Hid ((nds (r.drop (k+1))).length=nb*2):=κ (by rw[nds_len,List.length_drop,bz]);obtain⟨ls,bA⟩:=ν (r.take k++r.drop (k+1));have dB:=κ bA;have av:Hid (ls.length=k+nb):=κ (by rw[bA,List.length_append,List.length_take,List.length_drop,Nat.min_eq_left (by omega),bz]);have ax:Hid (k+nb≤100000):=κ (by omega);have aQ:Hid (r.length≤100000):=κ (by omega);have dC:Hid (quF 3 E Y ls Z=false):=κ (by rw[que_own ad.out.2.2.1 ad.out.2.1 ad.out.2.2.2.1,bA,que_less V cr.out cI.out];simp);obtain⟨tl,bB⟩:=ν (r.set k (wrap64 (1-nP r k),nC r k));have dD:Hid (quF 3 E Y tl Z=false):=κ (by rw[que_own ad.out.2.2.1 ad.out.2.1 ad.out.2.2.2.1,bB,que_turn V cr.out cI.out (turn_ne _)];simp);have bC:Hid (tl.length=r.length):=κ (by rw[bB,List.length_set]);have dE:=κ bB;have dF:=κ bx;clear aP hX bz dy bA bB et eu ev bx aj;obtain⟨hk,cu,ay,az,aR⟩:=HK.out
        go_upto_region 22 with fail
        rw[aR];clear cu ay az hk aR t0 HK;let T:World→Prop:=fun F=>True
        have I:Hid (T wG.drew):=κ trivial;have B4:Below wG.heap.size wG (wG.drew.alloc (.cells #[] 71)):=bst (Below.drew ψ) (β wG.drew _);have cv:Hid (World.ownsRow (wG.drew.alloc (.cells #[] 71)) wG.heap.size 71 2 (.slice (some (α wG.heap.size 0)) 0 0) 0 []):=κ (own_empty (blk_hd (by simp)) τ);have dG:=θ HA.out B4;refine Ω T [] ?_;refine jA 1 I.out ?_;refine jA 2 I.out ?_;refine jA 3 I.out ?_;refine jA 5 I.out ?_;refine jA 6 I.out ?_;refine jA 7 I.out ?_;refine jA 8 I.out ?_;refine jN 0 fun K' hK=>?_
        go_simp;refine hK.out _ _ trivial ?_;clear hK K';refine jP ?_;refine jN 4 fun K' hK=>?_
        refine step_appG (nm:=k) cv dG (by simp) rfl _ _ _ rfl i0 (.agg #[ι 0,ι 0]) 16 Tryz.underlying28 aX aY aZ a3 rfl (by decide) rfl rfl dz.out (nds_one _) (by have:=ax.out;unfold maxLen;omega) (by have:=ax.out;omega) B4.size ?_;intro X5 y5 w5 O5 dH;have B5:=grown_below B4 cv.out dH τ B4.size;have dI:=θ HB.out B5;refine hK.out _ _ trivial ?_;clear hK K';refine jP ?_;refine jN 9 fun K' hK=>?_
        refine step_appG (nm:=ls.length) O5 dI av.out rfl _ _ _ rfl i0 (.agg #[ι 0,ι 0]) 16 Tryz.underlying28 aX aY aZ a3 rfl (by decide) rfl rfl dA.out (nds_one _) (by have:=ax.out;unfold maxLen;omega) (by have:=ax.out;omega) B5.size ?_;intro X6 y6 w6 O6 dJ;have B6:=κ (grown_below B5 O5.out dJ τ B5.size);have dK:Hid (Nds w6 w6.heap.size X6 ls):=κ (by have h:=Rd.of_own O6.out;rw[List.nil_append,←nds_app,←dB.out]at h;exact h);refine hK.out _ _ trivial ?_;clear hK K' B4 B5 cv dG O5 dI dH O6 dJ HA HB dz dA ey cs;refine jP ?_;refine jA 10 (show T w6 from trivial) ?_;refine Δ ?_;have dL:=θ RQ.out B6.out;have ub:=β w6 (.cells #[] 71);have cy:Hid (World.ownsRow (w6.alloc (.cells #[] 71)) w6.heap.size 71 2 (.slice (some (α w6.heap.size 0)) 0 0) 0 []):=κ (own_empty (blk_hd rfl) τ);have dM:=θ dL.out ub
        go_upto_region 24 with(at_builtin;refine wpList_appB (nm:=r.length) cy dM (by simp) rfl _ _ _ rfl i0 (.agg #[.int .i64 0,.int .i64 0]) 16 Tryz.underlying28 aX aY aZ a3 rfl (by decide) rfl rfl (nds_len r) (nds_one r) (by have:=aQ.out;unfold maxLen;omega) (by have:=aQ.out;omega) ub.size ?_;intro X7 y7 w7 O7 dN _)
        have B7:=grown_below ub cy.out dN.out τ ub.size;obtain⟨g7,rfl⟩:=Bko.own_at O7.out dF.out;have q0:w7.cell? (α g7 (k*2))=some (ι (nP r k)):=by rw[World.ownsRow.cellAt O7.out (k*2) (by have:=ae.out;omega),List.nil_append];exact(nds_get r k ae.out).1
        have q1:=World.ownsRow.frozenAt O7.out (k*2);obtain⟨O8,dO⟩:=World.ownsRow.stored O7.out (k*2) (ι (wrap64 (1-nP r k)));rw[List.nil_append,nds_put ae.out,←dE.out]at O8;have B8:=κ (grown_below B7 O7.out dO τ B7.size);have cz:=θ dK.out B8.out;have cA:=κ (Rd.of_own O8);have BG:=κ (bst B6.out B8.out);clear dN dO O8 O7 cy dM ub B7 dL dK B6 B8 V
        go_upto_region 25 with fail
        generalize w7.setCell (α g7 (k*2)) (ι (wrap64 (1-nP r k)))=ao at cz cA BG ⊢;clear q0 q1;have T8:=κ (GT.out _ (GB.out _ _ GW.out BG.out.drew));let T:World→Prop:=fun F=>F.cell? (α L 0)=some (ι (Z:Int))∧F.cell? (α L 1)=some (ι wi)∧F.cell? (α L 2)=some (ι ra)∧F.cell? (α L 3)=some (ι ta)∧F.cell? (α L 4)=some (.slice A5 nl c5)∧F.cell? (α L 5)=some (.slice B5 al d5)∧F.cell? (α L 6)=some (.slice C5 sl f5)
        have I:Hid (T ao.drew):=T8;have HD:=κ (Below.drew (Below.refl ao.heap.size ao));have CL:=outs_any ls X6 y6 ao.drew (κ cz.out) (by have:=ax.out;have:=av.out;omega);have CT:=fun W (hb:Below ao.heap.size ao W)=>outs_any tl (some (α g7 0)) y7 W (θ cA.out hb) (by have:=aQ.out;have:=bC.out;omega)
        have aD:=fun W (hb:Below ao.heap.size ao W) cl Aq cq h4=>cn.out W (GB.out _ _ GW.out (bst BG.out hb)) cl Aq cq (κ (Rd.of_own (own_below OQ (bst BG.out hb)).out)) h4
        have cB:=fun W hb Aq cq h4=>aD W hb ls Aq cq h4 (by have:=ax.out;have:=av.out;omega)
        have bD:=fun W hb Aq cq h4=>aD W hb tl Aq cq h4 (by have:=aQ.out;have:=bC.out;omega)
        rw[dC.out]at cB;rw[dD.out]at bD;unfold Hof.MadeOf at CT;rw[bC.out]at CT bD;refine Ω T [] ?_;refine jB 0 I.out ?_;refine jA 1 I.out ?_;refine jA 2 I.out ?_;refine jN 3 fun K' hK=>?_
        go_simp;refine CL.mono ?_;rintro e wB ⟨Aq,cq,rfl,aN,aL,_⟩;have B1:=κ (bst HD.out aL);have an:=κ (GT.out _ (GB.out _ _ GW.out (bst BG.out B1.out)));have NQ:=κ aN;clear aL aN
        go_wp2_with fail
        refine hK.out _ _ an.out ?_;clear hK K';refine jP ?_;refine jN 4 fun K' hK=>?_
        go_simp;refine(cB _ B1.out Aq cq NQ).mono ?_;rintro e wC ⟨rfl,aM⟩;have B2:=κ (bst B1.out aM);have Q:=κ (GT.out _ (GB.out _ _ GW.out (bst BG.out B2.out)));clear aM NQ
        go_wp2_with fail
        refine hK.out _ _ Q.out ?_;clear hK K';refine jP ?_;refine jA 5 Q.out ?_;refine jB 6 Q.out ?_;refine jA 7 Q.out ?_;refine jA 8 Q.out ?_;refine jN 9 fun K' hK=>?_
        go_simp;refine(CT _ B2.out).mono ?_;rintro e wD ⟨At,ct,rfl,dP,dQ,_⟩;have B3:=κ (bst B2.out dQ);have bw:=κ (GT.out _ (GB.out _ _ GW.out (bst BG.out B3.out)));have NT:=κ dP;clear dQ dP
        go_wp2_with fail
        refine hK.out _ _ bw.out ?_;clear hK K';refine jP ?_;refine jN 10 fun K' hK=>?_
        go_simp;refine(bD _ B3.out At ct NT).mono ?_;rintro e wE ⟨rfl,aO⟩;have B9:=κ (bst BG.out (bst B3.out aO));have aw:=κ (GT.out _ (GB.out _ _ GW.out B9.out));clear aO NT
        go_wp2_with fail
        refine hK.out _ _ aw.out ?_;clear hK K';refine jP ?_;refine jA 11 aw.out ?_;refine Δ ?_;have cp:=κ (GB.out _ _ GW.out B9.out);have OT:=own_below OQ B9.out;have UT:=κ (bst UG.out B9.out);clear CL CT aD cB bD I an Q bw aw T8 B1 B2 B3 B9 cz cA BG HD dC dD bC dE dF aQ ax av dB ae cr ew
        go_upto_region 27 with fail
       all_goals
        rename World=>wT
        clear RQ GW OQ UG ck cn;obtain⟨nE,bE⟩:=ν E.length;rw[←bE];have dR:=κ bE;have h9:=HN.out;by_cases hel:nE=0
        ·have t0:((nE:Int)==0)=true:=by rw[hel];rfl
         clear bE h9
         go_wp2_with fail
         go_ret;exact madeB_mk rfl (bst U2.out UT.out)
        ·have t0:((nE:Int)==0)=false:=beq_eq_false_iff_ne.2 (by omega);have aA:0<E.length:=by omega
         obtain⟨k,ez,HK⟩:=pick_k how (show 0<nE by omega) (by omega);have V:k<E.length:=by omega
         have ae:=κ V;obtain⟨g,rfl⟩:=Bko.own_at OT.out aA;have q0:wT.cell? (α g (k*21+20))=some (ι (gH E k).d):=(World.ownsRow.cellAt OT.out (k*21+20) (by omega)).trans (hrow_get E k 20 V (by decide));have q1:=World.ownsRow.frozenAt OT.out (k*21+20);have dS:=κ (told_d ci.out (by rw[ar.out];have:=HN.out;omega) V);obtain⟨O1,g1⟩:=World.ownsRow.stored OT.out (k*21+20) (ι (wrap64 ((gH E k).d+1)));rw[hrow_set1 V (by decide) (x:=oneD E k) rfl]at O1;have G1:=κ (GG.out _ _ _ _ (.slice (some (α g 0)) E.length cx) _ cp.out OT.out g1);have U1:=κ (grown_below UT.out OT.out g1 dr.out UT.out.size);have O1:=κ O1;have H1:=κ (wfH_set (x:=oneD E k) bt.out V rfl);have E1:=κ (wfE_set (x:=oneD E k) ab.out V rfl rfl rfl);clear OT g1 UT cp h9 aA bE ez;obtain⟨hk,cu,ay,az,aR⟩:=HK.out
         go_upto_region 29 with fail
         clear t0 hel cu V
         go_upto_region 30 with fail
         rw[aR];rw[dR.out]
         go_upto_region 31 with fail
         generalize wT.setCell (α g (k*21+20)) (ι (wrap64 ((gH E k).d+1)))=wU at G1 O1 U1 ⊢;clear q0 q1 hk ay az aR HK dR;have C1:=cm.out wU G1.out (E.set k (oneD E k)) (κ (Rd.of_own O1.out)) H1 E1 (by rw[List.length_set];have:=HN.out;omega);rw[List.length_set,dS.out.1]at C1;obtain⟨k0,k1,k2,k3,k4,k5,k6⟩:=GT.out _ G1.out
         go_wp2_with fail
         refine C1.mono ?_;rintro e wV ⟨rfl,bF⟩;have G2:=κ (GB.out _ _ G1.out bF);have O2:=own_below O1 bF;have cC:=κ (bst U1.out bF);clear k0 k1 k2 k3 k4 k5 k6 C1 G1 O1 U1 bF;have q1:=World.ownsRow.frozenAt O2.out (k*21+3);have q0:wV.cell? (α g (k*21+3))=some (ι (gH (E.set k (oneD E k)) k).e):=(World.ownsRow.cellAt O2.out (k*21+3) (by have:=ae.out;omega)).trans (hrow_get (E.set k (oneD E k)) k 3 (by rw[List.length_set];exact ae.out) (by decide));obtain⟨O3,g3⟩:=World.ownsRow.stored O2.out (k*21+3) (ι 0);rw[hrow_set1 (by rw[List.length_set];exact ae.out) (by decide) (x:=oneE E k) (by rw[gH_set ae.out,if_pos rfl];rfl),List.set_set]at O3;have G3:=κ (GG.out _ _ _ _ (.slice (some (α g 0)) E.length cx) _ G2.out O2.out g3);have U3:=κ (grown_below cC.out O2.out g3 dr.out cC.out.size);have H3:=κ (wfH_set (x:=oneE E k) bt.out ae.out rfl);have E3:=κ (wfE_set (x:=oneE E k) ab.out ae.out rfl rfl rfl);have O3:=κ O3;clear O2 G2 cC g3
         go_upto_region 34 with fail
         generalize wV.setCell (α g (k*21+3)) (ι 0)=wW at G3 O3 U3 ⊢;clear q0 q1;have C3:=cm.out wW G3.out (E.set k (oneE E k)) (κ (Rd.of_own O3.out)) H3 E3 (by rw[List.length_set];have:=HN.out;omega);rw[List.length_set,dS.out.2]at C3;obtain⟨k0,k1,k2,k3,k4,k5,k6⟩:=GT.out _ G3.out
         go_wp2_with fail
         refine C3.mono ?_;rintro e wX ⟨rfl,eA⟩;have eB:=bst U2.out (bst U3.out eA);clear k0 k1 k2 k3 k4 k5 k6 C3
         go_wp2_with fail
         go_ret;exact madeB_mk rfl eB
theorem lifted(os:Os)(started:os.Started)(H:Type)(enc:TypeId×Value→H):
  ReturnsInHanded {} Tryz.checked os 4 .any (Rows.histFindsSpec.pre6 enc Tryz.prog Tryz.f4 Rows.histFindsRow.domain false) (Rows.histFindsSpec.post enc Tryz.prog Tryz.f4 false true false false):=by
 refine returnsInHanded_of_change_sized (C:=Tryz.checked) own started (by kernel_rfl) Tryz.func4
  (ChangeSpec.witness6 (enc:=enc) (C:=Tryz.checked) false ⟨#[],#[.agg #[.int .i64 0,.int .i64 0,.int .i64 0,.int .i64 0,.slice none 0 0,.slice none 0 0,.slice none 0 0],.slice none 0 0,.int .i64 0],[]⟩ 8 (by kernel_rfl) (by kernel_rfl) (by kernel_rfl) (by kernel_rfl)) ?_
 intro W h a M gs i g z D l _;have b: ∀(j:Nat) t v,Tryz.f4.params[j]? =some t→a[j]? =some v→Value.okWide Tryz.prog W .any h t v:=g;have m:=z;obtain⟨p,q,n,hV,rfl,O,P⟩:=z;have E:DataW.TrodAll enc Tryz.prog W 0 (fun _=>true) true Tryz.f4.params.toList a.toList M p:=n;rw[Tryz.params4]at E b;obtain⟨F,Q,T,U,p0,q0,o,rfl,rfl,V,X⟩:=trodAll_cons E;obtain⟨G,Y,d1,Z,p1,q1,rfl,rfl,rfl,h1,r1⟩:=trodAll_cons X;obtain⟨I,aa,d2,ab,p2,q2,rfl,rfl,rfl,h2,r2⟩:=trodAll_cons r1;obtain⟨rfl,rfl,rfl⟩:=trodAll_nil r2;obtain rfl:a= #[F,G,I]:=by cases a;simp_all
 obtain⟨J,K,L,rfl⟩:=okWide_slice Tryz.underlying51 (b 1 _ G rfl rfl);obtain⟨fu,r⟩:=h1;obtain⟨Al,nL,cL,hv,_,_,s⟩:=open_raws (v:= .slice J K L) r;cases hv;obtain⟨a2,rfl,_,_,w2⟩:=open_int Tryz.underlying3 (b 2 3 I rfl rfl) h2
 have w: ∀k∈T.weights Tryz.prog 26,k≤reachBytes:=by
  intro k hk;have:=List.all_eq_true.1 l k (DataW.weights_mem_each (j:=0) rfl rfl k hk);simpa using this
 obtain⟨sh,wi,ra,ta,A,B,C,c,d,f,nd,ac,sy,rfl,_,_,_,_,k1,k2,k3,hn,hw,ha,x,hs,y⟩:=open_conf_s (b 0 _ F rfl rfl) V w;refine(inner sh wi ra ta A B C _ _ _ c d f nd ac sy J K L _ W rfl rfl rfl k1 k2 k3 hn ha hs hw x y s (wf_in w2)).mono fun e W' ⟨he,hb⟩=>?_
 subst he;exact⟨_,rfl,law_post m rfl rfl rfl rfl (by kernel_rfl) Tryz.underlying4 (by rw[Tryz.params4];simp only[List.mem_cons,List.not_mem_nil,or_false,forall_eq_or_imp,forall_eq];exact⟨⟨by kernel_rfl,of_decide_eq_true (by kernel_rfl)⟩,⟨by kernel_rfl,of_decide_eq_true (by kernel_rfl)⟩,⟨by kernel_rfl,of_decide_eq_true (by kernel_rfl)⟩⟩) laidOut hb⟩
theorem over:Rows.histFindsRow.holds Tryz.pinned (OpenSpec.ofChange Rows.histFindsSpec):=
 OpenClaim.holds_of_wide 4 Tryz.f4 rfl rfl rfl rfl rfl rfl rfl ⟨rfl,rfl,rfl,rfl,rfl⟩ rfl rfl rfl rfl rfl (by kernel_rfl) Tryz.func4 (by kernel_rfl)
  (of_decide_eq_true (by kernel_rfl)) (by unfold Func.isWrapper;first|(rw[if_pos (by decide+kernel)];kernel_rfl)|(rw[if_neg (by decide+kernel)];exact⟨rfl,rfl⟩))
  (fun c a H b _=>lifted c a H b)
theorem proved:Rows.HistFindsSaid:=over
#print axioms proved
end histFinds
end Go.Proofs.YtcccdikhfgpamaaGreat
