/- Texts side by side. -/
import Derived.Test.YtcccdikhfgpamaaGreatUhcc
set_option linter.unusedVariables false
set_option linter.unusedSimpArgs false
set_option maxRecDepth 100000
set_option maxHeartbeats 16000000
namespace Go.Proofs.YtcccdikhfgpamaaGreat
open Kap Abv Go.ChangeShapes Go.WideShapes Go.ChangeAt Go.RowKit Go.Lib Mem Tre Ref3 Law3 Fix3 Cfg Crd CrdB CrdC St7 Bkp Bks Stk Apt Wpl Hpa Hpl Hws Hrr Hod Tl5 Rul2 Hqp Hgr Hdi Hof Lat Lax Apt Mdp Mde Lac
namespace Hrq
open Hck (rq_of ordF_len WfO WfE)
open Lst (do_outs)
open Mdz (Mz)
open Mds (Pm plO)
open Mdd (Opn doF)
open Mdq (Vp Vp_do gX_mem)
open Mdg (bgnP)
open Rmg (rmbegin_any)
open Rmd (rmdo_any)
open Rmp (Rm Cq Rm_below Rz_of)
theorem rque_any(n:Int)(E:List He)(out:List (Int×Int))(sN:Nat)(wi ra ta:Int)(A B C Al Ar:Option Addr)(nl al sl c d f cL cR:Nat)(nd:List (Int×Int))(ac:List Int)(sy:List (Int×Int×Int×Nat))(w:World)(L1:Hid (nl=nd.length))(L2:Hid (al=ac.length))(L3:Hid (sl=sy.length))
  (hn:Hid (Nds w w.heap.size A nd))(ha:Hid (Ris w w.heap.size B ac))(hs:Hid (Smb w w.heap.size C sy))(hwn:Hid (WfN nd))(m1:nl≤1000)(m2:al≤1000)(m3:sl≤1000)(hsh:sN≤1000)(hcf:Hid (cfgF (sN:Int) wi ra ta nd ac sy=0))(V0:Hid (Vp 0 (bgnP (sN:Int) wi ra ta nd ac sy)))
  (hl:Hid (Rd w w.heap.size Al (hrow E)))(hE:Hid (WfE E))(hm:E.length≤90)(ho:Hid (Nds w w.heap.size Ar out))(hmo:out.length≤100000):
  Calls Tryz.prog 16 #[.agg (vC (sN:Int) wi ra ta A nl c B al d C sl f),.int .i64 n,.slice Al E.length cL,.slice Ar out.length cR] w (MadeB (quF n E (bgnP (sN:Int) wi ra ta nd ac sy) out sN) w):=by
 have U0:=κ (β w (.cells (vC (sN:Int) wi ra ta A nl c B al d C sl f) 31));have K0:=κ (Blk.fresh w 31 (vC (sN:Int) wi ra ta A nl c B al d C sl f))
 go_enter Tryz.func16,Tryz.ntmps16
 go_upto_region 1 with fail
 generalize w.alloc (.cells (vC (sN:Int) wi ra ta A nl c B al d C sl f) 31)=w0 at U0 K0 ⊢;generalize w.heap.size=gB at K0 ⊢;obtain⟨k0,k1,k2,k3,k4,k5,k6⟩:=c7_of K0.o;have CK:=rcheck5_any (sN:Int) wi ra ta A B C c d f nd ac sy w0 (θ hn.o U0.o) (η ha.o U0.o) (κ (Rd.below' hs.o U0.o U0.o.size)) hwn (by rw[←L1.o];omega) (by rw[←L2.o];omega) (by rw[←L3.o];omega);rw[←L1.o,←L2.o,←L3.o,hcf.o]at CK
 go_wp2_with fail
 refine CK.mono ?_;rintro e w1 ⟨rfl,af⟩;have U1:=κ (bst U0.o af);have K1:=κ (K0.o.below' af);clear k0 k1 k2 k3 k4 k5 k6 K0 U0 af CK
 go_wp2_with fail
 refine(rright_any n E Al cL w1 (κ (Rd.below' hl.o U1.o U1.o.size)) (by omega)).mono ?_;rintro e w2 ⟨rfl,O⟩;have U2:=κ (bst U1.o O);have K2:=κ (K1.o.below' O);clear K1 U1 O;by_cases hR:rightF n E=true
 ·have hF:Hid (quF n E (bgnP (sN:Int) wi ra ta nd ac sy) out sN=((out.all fun o=>decide (0≤o.2))&&queL (letL E (ordF E) (bgnP (sN:Int) wi ra ta nd ac sy)) out (endL E (ordF E)) sN sN 0)):=κ (by unfold quF;rw[hR,end_whole];rfl);rw[hR];clear hR
  go_upto_region 3 with fail
  obtain⟨k0,k1,k2,k3,k4,k5,k6⟩:=c7_of K2.o
  go_wp2_with fail
  refine(rmbegin_any sN wi ra ta A B C nl al sl c d f nd ac sy w2 L1 L2 L3 (θ hn.o U2.o) (η ha.o U2.o) (κ (Rd.below' hs.o U2.o U2.o.size)) m1 m2 hsh).mono ?_;rintro e w3 ⟨gr,q,rfl,aN,aO,aP,aB,bl⟩;have M3:=κ aN;have P3:=κ aO;have Q3:=κ aP;have U3:=κ (bst U2.o aB);have aQ:Hid (w.heap.size≤w2.heap.size):=κ U2.o.size;generalize w2.heap.size=aR at M3 aQ;have K3:=κ (K2.o.below' aB);clear k0 k1 k2 k3 k4 k5 k6 K2 U2 aB bl aN aO aP
  go_wp2_with fail
  refine(order_any E Al cL w3 (κ (Rd.below' hl.o U3.o U3.o.size)) (by omega)).mono ?_;rintro e w4 ⟨Ao,co,rfl,aC,am,aS⟩;have OP:Hid (Ris w4 w4.heap.size Ao (nI (ordF E))):=κ aC;have U4:=κ (bst U3.o am);have M4:=κ (Rm_below M3.o am);obtain⟨vm,vo⟩:=rq_of M3.o (by rw[P3.o];exact V0.o);have ah:0<q.nb:=by have h1:=vm.nb;have h2:=vm.sh;omega
  clear vm vo
  have FR:Hid (Far gr q.Ab Ao (ints (nI (ordF E)))):=κ (.inr fun a ha=>by
   have h1:=aS a ha
   have h2:=M3.o.blk.lt
   refine⟨by omega,fun b hb=>?_⟩
   have h3:=(World.ownsRow.lt M3.o.row b.block (by rw[hb];rfl)).2
   omega)
  have AO:=κ (rd_lt aC);have K4:=κ (K3.o.below' am);clear ah aS am aC M3 U3 K3;have an:Hid ((ordF E).length≤90):=κ (by have h:=ordF_len E;omega);have aT:Hid (∀a∈ordF E,a<E.length):=κ (fun a ha=>ordN_lt ha)
  have aD:Hid (∀u∈letL E (ordF E) (bgnP (sN:Int) wi ra ta nd ac sy),0≤u.2):=κ (let_ids E _ 0 _ (ip_begin _ _ _ _ _ _ _) V0.o (fun i=>by
   by_cases hi:i<E.length
   ·exact⟨(hE.o i hi).t,(hE.o i hi).p,(hE.o i hi).q⟩
   ·have e:gH E i=he0:=by unfold gH;rw[List.getD,List.getElem?_eq_none (by omega)];rfl
    rw[e];exact⟨⟨by decide,by decide⟩,⟨by decide,by decide⟩,by decide,by decide⟩))
  have aU:Hid (1≤(sN:Int)∧(sN:Int)≤1000):=κ V0.o.sh;rw[←P3.o]at V0;have ao:Hid (letL E (ordF E) (bgnP (sN:Int) wi ra ta nd ac sy)=[]++letL E ((ordF E).drop 0) (plO q)):=κ (by rw[P3.o];rfl);have ap:Hid (endL E (ordF E)=(true&&endL E ((ordF E).drop 0))):=κ rfl;clear P3 hcf;obtain⟨l,aE⟩: ∃r,r=quF n E (bgnP (sN:Int) wi ra ta nd ac sy) out sN:=⟨_,rfl⟩;rw[←aE]at hF;have RE:=κ aE;clear aE;generalize bn:letL E (ordF E) (bgnP (sN:Int) wi ra ta nd ac sy)=LL at hF aD ao;generalize bo:endL E (ordF E)=EN at hF ap;clear bn bo;generalize ordF E=L at OP FR an aT ao ap AO ⊢;have QA:Hid (q.Ab=q.Ab):=κ rfl;generalize aV:q.Ab=Ab at FR QA;have aW:Hid (q.Ab=Ab):=κ aV;clear aV QA;have aX:Hid (w.heap.size≤w4.heap.size):=κ U4.o.size;have aY:Hid (w4.heap.size≤w4.heap.size):=κ τ;have W0:Hid (World.ownsRow w4 w4.heap.size 71 2 (.slice none 0 0) 0 (nds [])):=κ (World.ownsRow_nil _ _ _ _);have aZ:Hid (∀z,(Value.slice none 0 0).ownBlock=some z→Mz z gr q):=κ (fun z hz=>by simp[Value.ownBlock]at hz);obtain⟨i0,hi,bp,bq,br⟩:=info_parts rout_i;generalize bs:w4.heap.size=BL at AO aX W0 aY;have ag:Hid (BL≤w4.heap.size):=κ (by omega);clear bs aY
  go_wp2_with fail
  go_loopg [11,12,13] L.length (fun g9 bt bu bv Z=> ∃(i:Nat) (qk:Mq) (H:Bool) (F:List (Int×Int)) (Aw:Option Addr) (P cw:Nat),i+g9=L.length∧bv= ι i∧bu= .bool H∧bt= .slice Aw P cw∧Hid (P=F.length∧P≤1000*i)∧Hid (LL=F++letL E (L.drop i) (plO qk))∧Hid (EN=(H&&endL E (L.drop i)))∧Hid (Vp i (plO qk))∧Hid (Rm aR Z gr qk)∧Hid (Cq qk)∧Hid (qk.Ab=Ab)∧Hid (Ris Z Z.heap.size Ao (nI L))∧Hid (Blk Z gB 31 (vC (sN:Int) wi ra ta A nl c B al d C sl f))∧Hid (World.ownsRow Z BL 71 2 (.slice Aw P cw) P (nds F))∧Hid (∀z,(Value.slice Aw P cw).ownBlock=some z→Mz z gr qk)∧Hid (BL≤Z.heap.size)∧Hid (Below w.heap.size w Z))
  case atStart=>exact⟨0,q,true,[],none,0,0,by omega,rfl,rfl,rfl,κ ⟨rfl,τ⟩,ao,ap,V0,M4,Q3,aW,OP,K4,W0,aZ,ag,U4⟩
  case round=>
   clear ao ap V0 M4 Q3 aW OP U4 K4 W0 aZ ag;obtain⟨i,qk,H,F,Aw,P,cw,bM,rfl,rfl,rfl,aa,HC,aq,VP,MK,CQ,QA,OP,KC,OW,MZ,ag,U⟩:=hrel
   rename World=>wr
   by_cases hlt:i<L.length
   ·obtain⟨g,rfl⟩: ∃g,gk=g+1:=⟨gk-1,by omega⟩;obtain⟨x,hx⟩: ∃x,x=L[i]:=⟨_,rfl⟩;have aF:x<E.length:=by rw[hx];exact aT.o _ (List.getElem_mem hlt)
    have HD:Hid (L.drop i=x :: L.drop (i+1)):=κ (by rw[hx];exact List.drop_eq_getElem_cons hlt);obtain⟨b,o,rfl,hb,hc⟩:=Ris.at (i:=i) OP.o (by simpa[nI] using hlt);have ci:=hc i (by simpa[nI] using hlt);have hg:gI (nI L) i=(x:Int):=by rw[hx];simp[gI,nI,hlt]
    rw[hg]at ci;have HG:=κ hg;have bN:Hid (i<(nI L).length):=κ (by simpa[nI] using hlt);clear hc hb hg hx;obtain⟨b2,o2,rfl,O,Y⟩:=hes_at (Rd.below' hl.o U.o U.o.size) (by omega);have f:=Y x aF;clear Y O;have HX:=κ aF;have ld:=ldr21 f;have a0:decide ((i:Int)<(L.length:Int))=true:=by simp;omega
    go_upto_region 11 with(first|(refine wpList_ld _ _ rfl rfl rfl ld ?_)|(refine wpList_st _ _ _ rfl rfl rfl rfl (str21 _ _) ?_))
    clear ld f a0;have K:=κ (Blk.fresh wr 68 (hA (gH E x)));have Q:=β wr (.cells (hA (gH E x)) 68);have U1:=κ (bst U.o Q);have O1:Hid (Ris (wr.alloc (.cells (hA (gH E x)) 68)) (wr.alloc (.cells (hA (gH E x)) 68)).heap.size (some ⟨b,o,none⟩) (nI L)):=κ (Rd.below' OP.o Q Q.size);have M1:=κ (Rm_below MK.o Q);have ar:=κ (KC.o.below' Q);have W1:=own_below OW Q;have au:Hid (BL≤(wr.alloc (.cells (hA (gH E x)) 68)).heap.size):=κ (Nat.le_trans ag.o Q.size);have SV:=κ (rq_of MK.o VP.o);have HW:=κ (hE.o x HX.o);have HS:Hid (LL=F++((doF (plO qk) (opH (gH E x))).2.2.2++letL E (L.drop (i+1)) (doF (plO qk) (opH (gH E x))).1)):=κ (by rw[HC.o,HD.o];rfl);have ai:Hid (EN=(H&&((gH E x).e != 0&&endL E (L.drop (i+1))))):=κ (by rw[aq.o,HD.o];rfl);have DO:=κ (do_outs VP.o (by have:=an.o;omega) (opH (gH E x)));have av:=κ (Vp_do VP.o (opH (gH E x)) HW.o.t HW.o.p HW.o.q);have a1:=VP.o.ep;have bO:i≤90:=by have:=an.o;omega
    clear Q OP U MK HC HD VP HX aF ci KC OW ag aq;generalize gH E x=X at K U1 O1 M1 HW HS av ar W1 au ai DO ⊢;generalize wr.alloc (.cells (hA X) 68)=w1 at K U1 O1 M1 ar W1 au ⊢;generalize wr.heap.size=ge at K ⊢;have aj:=rmdo_any aR gr i qk X.m.k X.m.a X.m.s X.m.p X.m.q X.m.n X.m.t X.m.i X.m.y X.m.z X.m.v X.sx X.ex X.m.x X.sw w1 M1 (κ SV.o.1) (by omega) (κ SV.o.2) ⟨a1.1,by have:=a1.2;show(plO qk).ep≤_;omega⟩ HW.o.p HW.o.q HW.o.y HW.o.v HW.o.s HW.o.e.1 HW.o.e.2 CQ (fun w0=>Wry.rright_any ⟨X.m.k,X.m.a,X.m.s,X.m.x,X.m.p,X.m.q,X.m.n,X.m.t,X.m.i,X.m.y,X.m.z,X.m.v⟩ w0);have hX:(⟨⟨X.m.k,X.m.a,X.m.s,X.m.x,X.m.p,X.m.q,X.m.n,X.m.t,X.m.i,X.m.y,X.m.z,X.m.v⟩,X.sw,X.sx,X.ex⟩:Opn)=opH X:=rfl;rw[hX]at aj;generalize doF (plO qk) (opH X)=R at aj HS av DO;obtain⟨P1,cd,id,G⟩:=R;simp only at aj HS av DO;have lo:=ldOpR (h21_blk K.o)
    go_wp2_with (refine wpList_ld _ _ rfl rfl rfl lo ?_)
    refine aj.mono ?_;rintro e w2 ⟨q1,A2,n2,c2,rfl,ak,a2,_,hM,hP,hA,hK,hZ,a3⟩;have O2:Hid (Ris w2 w2.heap.size (some (α b o)) (nI L)):=κ (rd_kp O1.o hK (by rw[QA.o];exact FR.o));have K2:=κ (blk_dor K.o M1.o (by decide) (by decide) hK);have U2:=κ (below_kpr U1.o M1.o hK aQ.o);have a4:=κ (blk_dor ar.o M1.o (by decide) (by decide) hK);have W2:=κ (own_kpr W1.o M1.o (by decide) (by decide) hK);have aG:Hid (∀z,(Value.slice Aw P cw).ownBlock=some z→Mz z gr q1):=κ (fun z hz=>hZ z (World.ownsRow.lt W1.o z hz).2 (MZ.o z hz));have a5:=κ (Nat.le_trans au.o hK.size);have aw:=κ ak;have N2:=κ a2;have M2:=κ hM;have P2:=κ hP;have C2:=κ a3;have a6:Hid (q1.Ab=Ab):=κ (hA.trans QA.o);clear lo aj hX hM hP hA hK a3 O1 K U1 M1 QA SV CQ ak a2 hZ ar W1 au MZ;have Q:=β w2 (.cells (vI cd id) 64);have O3:Hid (Ris (w2.alloc (.cells (vI cd id) 64)) (w2.alloc (.cells (vI cd id) 64)).heap.size (some (α b o)) (nI L)):=κ (Rd.below' O2.o Q Q.size);have K3:=κ (K2.o.below' Q);have U3:=κ (bst U2.o Q);have M3:=κ (Rm_below M2.o Q);have aH:=κ (a4.o.below' Q);have W3:=own_below W2 Q;have N3:=θ N2.o Q;have ax:Hid (BL≤(w2.alloc (.cells (vI cd id) 64)).heap.size):=κ (Nat.le_trans a5.o Q.size);clear Q O2 K2 U2 M2 a4 W2 N2 a5
    go_upto_region 12 with fail
    generalize w2.alloc (.cells (vI cd id) 64)=w3 at O3 K3 U3 M3 aH W3 N3 ax ⊢;have HL:Hid ((nds G).length=n2*2):=κ (by rw[nds_len,aw.o]);have bw:n2≤1000:=by rw[aw.o];exact DO.o
    have bx:P≤90000:=by have:=aa.o.2;omega
    have ay:Hid (P+n2≤maxLen∧(P+n2)*16≤140737488355328∧P+n2≤1000*(i+1)):=κ ⟨by unfold maxLen;omega,by omega,by have:=aa.o.2;omega⟩;clear bw bx
    go_upto_region 13 with(at_builtin;refine wpList_appB (nm:=P+n2) W3 N3 rfl rfl _ _ _ rfl i0 (.agg #[.int .i64 0,.int .i64 0]) 16 Tryz.underlying28 hi bp bq br rfl (by decide) rfl rfl HL.o (nds_one G) ay.o.1 ay.o.2.1 ax.o ?_;intro A5 c5 w5 a7 I a8)
    have M5:=κ (rm_grown M3.o W3.o I.o aG.o);have a9:=κ (mz_push a8.o aG.o (Rz_of M3.o τ));have O5:Hid (Ris w5 w5.heap.size (some (α b o)) (nI L)):=κ (rd_off O3.o W3.o AO.o I.o);have ba:=κ (blk_own_grown aH.o W3.o (by decide) I.o);have K5:=κ (blk_own_grown K3.o W3.o (by decide) I.o);have U5:=κ (grown_below U3.o W3.o I.o aX.o U3.o.size);have bb:=κ (Nat.le_trans ax.o I.o.size);have W5:Hid (World.ownsRow w5 BL 71 2 (.slice A5 (P+n2) c5) (P+n2) (nds (F++G))):=κ (by have h:=a7.o;rw[show nds (F++G)=nds F++nds G from by simp[nds]];exact h);clear a7 I a8 M3 W3 aG O3 aH K3 U3 ax N3 HL;have c3:w5.cell? (α ge 3)=some (ι X.e):=K5.o.cell 3;have bc:Hid (Vp (i+1) (plO q1)):=κ (by rw[P2.o];exact av.o);have HN:Hid (LL=(F++G)++letL E (L.drop (i+1)) (plO q1)):=κ (by rw[HS.o,P2.o,List.append_assoc]);have bd:Hid (P+n2=(F++G).length∧P+n2≤1000*(i+1)):=κ ⟨by rw[List.length_append,aa.o.1,aw.o],ay.o.2.2⟩;clear K5 aa HS ay aw HW;cases H with
    |true=>
     obtain⟨b0,e0⟩: ∃b0,(X.e != 0)=b0:=⟨_,rfl⟩;have aI:Hid (EN=(b0&&endL E (L.drop (i+1)))):=κ (by rw[ai.o,e0];rfl);clear ai
     go_wp2_with fail
     go_roundg g
     case measure=>omega
     case rel=>exact⟨i+1,q1,b0,F++G,A5,P+n2,c5,by omega,by go_num,rfl,rfl,bd,HN,aI,bc,M5,C2,a6,O5,ba,W5,a9,bb,U5⟩
    |false=>
     have aI:Hid (EN=(false&&endL E (L.drop (i+1)))):=κ (by rw[ai.o];rfl);clear ai
     go_wp2_with fail
     go_roundg g
     case measure=>omega
     case rel=>exact⟨i+1,q1,false,F++G,A5,P+n2,c5,by omega,by go_num,rfl,rfl,bd,HN,aI,bc,M5,C2,a6,O5,ba,W5,a9,bb,U5⟩
   ·have a0:decide ((i:Int)<(L.length:Int))=false:=by simp;omega
    have hD:L.drop i=[]:=List.drop_eq_nil_of_le (by omega);have HA:Hid (LL=F):=κ (by rw[HC.o,hD];simp[letL]);have HB:Hid (EN=H):=κ (by rw[aq.o,hD];simp[endL]);have NW:Hid (Nds wr wr.heap.size Aw F):=κ (Rd.of_own OW.o);have WI:Hid (∀k,k<F.length→0≤nC F k):=κ (ids_at (by rw[←HA.o];exact aD.o));have bz:=aa.o.1;have WM:Hid (F.length≤100000):=κ (by have:=aa.o.2;have:=an.o;omega);subst bz;have HF:Hid (l=((out.drop 0).all (fun o=>decide (0≤o.2))&&queL F out H sN sN 0)):=κ (by rw[hF.o,HA.o,HB.o];rfl);obtain⟨k0,_,_,_,_,_,_⟩:=c7_of KC.o;clear hD HC aq VP MK CQ QA OP MZ OW aa ag HA HB hF aD;generalize be:queL F out H sN sN 0=Q0 at HF;have bf:=κ be;clear be
    go_wp2_with fail
    go_loopg [17] out.length (fun bA bB Z=> ∃k,k+bA=out.length∧bB= ι (k:Nat)∧Z=wr∧Hid (l=((out.drop k).all (fun o=>decide (0≤o.2))&&Q0))∧Hid (∀j,j<k→0≤nC out j))
    case atStart=>exact⟨0,by omega,rfl,rfl,HF,κ (fun j hj=>absurd hj (by omega))⟩
    case round=>
     clear HF;obtain⟨k,hk,rfl,rfl,HF,HJ⟩:=hrel;by_cases hko:k<out.length
     ·obtain⟨g2,rfl⟩: ∃g,gk=g+1:=⟨gk-1,by omega⟩;obtain⟨b2,o2,rfl,_,Y⟩:=Nds.at (Rd.below' ho.o U.o U.o.size) (by omega);obtain⟨f0,f1⟩:=Y k hko;have HG:=κ (all_step hko);clear Y;have bC: ∃y,y=nC out k:=⟨_,rfl⟩;obtain⟨y,aJ⟩:=bC;rw[←aJ]at f1 HG;have HY:=κ aJ;clear aJ;have bD:decide ((k:Int)<(out.length:Int))=true:=by simp;omega
      by_cases hy:y<0
      ·have bE:decide (y<0)=true:=by simp[hy]
       have J:Hid (l=false):=κ (by rw[HF.o,HG.o,decide_eq_false (by omega)];rfl)
       go_wp2_with fail
       go_ret;exact⟨by rw[←RE.o,J.o];rfl,U.o⟩
      ·have bE:decide (y<0)=false:=by simp;omega
       have J:Hid (l=((out.drop (k+1)).all (fun o=>decide (0≤o.2))&&Q0)):=κ (by rw[HF.o,HG.o,decide_eq_true (by omega)];rfl)
       go_wp2_with fail
       go_roundg g2
       case measure=>omega
       case rel=>exact⟨k+1,by omega,by go_num,rfl,J,κ (fun j hj=>by
        by_cases e:j=k
        ·rw[e,←HY.o];omega
        ·exact HJ.o j (by omega))⟩
     ·have bD:decide ((k:Int)<(out.length:Int))=false:=by simp;omega
      have J:Hid (l=queL F out H sN sN 0):=κ (by rw[HF.o,List.drop_eq_nil_of_le (by omega),bf.o];rfl);clear HF bf;have OI:Hid (∀k,k<out.length→0≤nC out k):=κ (fun j hj=>HJ.o j (by omega))
      go_wp2_with fail
      go_loopg [18] sN (fun bg bF Z=> ∃s,s+bg=sN∧bF= ι (s:Nat)∧Hid (l=queL F out H sN bg s)∧Hid (Below wr.heap.size wr Z))
      case atStart=>exact⟨0,by omega,rfl,J,κ ψ⟩
      case round=>
       clear J;obtain⟨s,hs,rfl,J,UB⟩:=hrel
       rename World=>wt
       have KT:=κ (KC.o.below' UB.o);obtain⟨t0,_,_,_,_,_,_⟩:=c7_of KT.o;by_cases hsn:s<sN
       ·obtain⟨g3,rfl⟩: ∃g,gk=g+1:=⟨gk-1,by omega⟩;have bG:decide ((s:Int)<(sN:Int))=true:=by simp;omega
        have HS:Hid (l=(shF F out H sN s&&queL F out H sN g3 (s+1))):=κ J.o;clear J
        go_upto_region 22 with fail
        go_cut [19,20] (fun a b wx=> ∃A1 c1 A2 c2,a= .slice A1 (ofF out sN s).length c1∧b= .slice A2 (ofF F sN s).length c2∧Hid (Nds wx wx.heap.size A1 (ofF out sN s))∧Hid (Nds wx wx.heap.size A2 (ofF F sN s))∧Hid (Below wr.heap.size wr wx))
        case first=>
         let T:World→Prop:=fun Z=>Z.cell? (α gB 0)=some (ι (sN:Int))∧True
         have HT:Hid (T wt.drew):=κ ⟨t0,trivial⟩;have HD:=κ (Below.drew UB.o);have CA:=fun W hb=>rof_any out Ar cR sN s W (θ ho.o (bst U.o hb)) OI aU.o hmo
         have CB:=fun W hb=>rof_any F Aw cw sN s W (θ NW.o hb) WI aU.o WM.o
         have TT:Hid (∀W,Below wr.heap.size wr W→T W):=κ (fun W hb=>⟨(KC.o.below' hb).cell 0,trivial⟩);refine Ω T [] ?_;refine jA 0 HT.o ?_;refine jA 1 HT.o ?_;refine jB 2 HT.o ?_;refine jA 3 HT.o ?_;refine jA 5 HT.o ?_;refine jA 6 HT.o ?_;refine jB 7 HT.o ?_;refine jA 8 HT.o ?_;refine jN 4 fun K' hK=>?_
         go_simp;refine(CA _ HD.o).mono ?_;rintro e w6 ⟨A1,c1,rfl,bh,af,_⟩;have X1:=κ bh;have B1:=κ (bst HD.o af);have bH:=κ (TT.o _ B1.o);clear bh af
         go_wp2_with fail
         refine hK.out _ _ bH.o ?_;clear hK K';refine jP ?_;refine jN 9 fun K' hK=>?_
         go_simp;refine(CB _ B1.o).mono ?_;rintro e w7 ⟨A2,c2,rfl,ak,O,_⟩;have X2:=κ ak;have Y1:=θ X1.o O;have B2:=κ (bst B1.o O);have aK:=κ (TT.o _ B2.o);clear ak O
         go_wp2_with fail
         refine hK.out _ _ aK.o ?_;clear hK K';refine jP ?_;refine jA 10 aK.o ?_;refine jA 11 aK.o ?_;refine Δ ?_
         go_wp2_with fail
         go_meet;exact⟨A1,c1,A2,c2,rfl,rfl,Y1,X2,B2⟩
        case rest=>
         obtain⟨A1,c1,A2,c2,rfl,rfl,N1,N2,UC⟩:=hcut
         rename World=>wv
         clear t0 KT UB;have SG:=κ (sh_gt (want:=F) (out:=out) (wh:=H) (n:=sN) (s:=s));have SW:=κ (sh_wh (want:=F) (out:=out) (n:=sN) (s:=s));have SO:=κ (sh_ok (want:=F) (out:=out) (wh:=H) (n:=sN) (s:=s));generalize bi:shF F out H sN s=sv at HS SG SO;have SV:=κ bi;clear bi;have NX:Hid ((ofF out sN s).length≤100000):=κ (Nat.le_trans (List.length_filter_le _ _) hmo);generalize ofF out sN s=la at N1 SG SW SO NX ⊢;generalize ofF F sN s=lb at N2 SG SW SO ⊢;obtain⟨V,aL⟩: ∃n,n=la.length:=⟨_,rfl⟩;obtain⟨nb,ah⟩: ∃n,n=lb.length:=⟨_,rfl⟩;simp only[←aL,←ah];have S:=κ aL;have ab:=κ ah;clear aL ah;have SP:Hid (V≤nb→(H=true→ ¬V<nb)→l=(preL (la.drop 0) (lb.drop 0)&&queL F out H sN g3 (s+1))):=κ (fun h1 h=>by rw[HS.o,SO.o (by rw[←S.o,←ab.o];exact h1) (by rw[←S.o,←ab.o];exact h)];rfl);have SQ:Hid (H=true→V<nb→l=false):=κ (fun h1 h2=>by rw[HS.o,←SV.o,h1,SW.o (by rw[←S.o,←ab.o];exact h2)];rfl);have SR:Hid (nb<V→l=false):=κ (fun h=>by rw[HS.o,SG.o (by rw[←S.o,←ab.o];exact h)];rfl);clear HS SG SW SO SV;obtain⟨sb,ad⟩: ∃b,b=(decide ((nb:Int)<(V:Int))||(H&&((V:Int) != (nb:Int)))):=⟨_,rfl⟩;have SB:=κ ad;clear ad
         go_upto_region 23 with fail
         go_cut [106] (fun s6 wx=>s6= .bool sb∧wx=wv)
         case first=>
          by_cases hg:nb<V
          ·have az:decide ((nb:Int)<(V:Int))=true:=by simp;omega
           go_wp2_with fail
           go_meet;exact⟨by rw[SB.o,az];rfl,rfl⟩
          ·have az:decide ((nb:Int)<(V:Int))=false:=by simp;omega
           obtain⟨xb,bI⟩: ∃b,((V:Int) != (nb:Int))=b:=⟨_,rfl⟩;cases H with
           |true=>
            go_wp2_with fail
            go_meet;exact⟨by rw[SB.o,az,bI];rfl,rfl⟩
           |false=>
            go_wp2_with fail
            go_meet;exact⟨by rw[SB.o,az];rfl,rfl⟩
         case rest=>
          obtain⟨rfl,rfl⟩:=hcut
          rename World=>wv
          by_cases ad:sb=true
          ·have J:Hid (l=false):=κ (by
            have h:=SB.o
            rw[ad]at h
            by_cases hg:nb<V
            ·exact SR.o hg
            ·cases H with
             |false=>simp at h;omega
             |true=>simp at h;exact SQ.o rfl (by omega))
           rw[ad]
           go_wp2_with fail
           go_ret;exact⟨by rw[←RE.o,J.o];rfl,bst U.o UC.o⟩
          ·have aA:sb=false:=Bool.eq_false_iff.2 ad
           have bj:Hid (V≤nb):=κ (by
            have h:=SB.o
            rw[aA]at h
            simp at h
            omega)
           have J:=κ (SP.o bj.o (fun h1 h2=>by
            have h:=SB.o
            rw[aA,h1]at h
            simp at h
            omega))
           rw[aA];clear SP SQ SR SB ad aA
           go_wp2_with fail
           go_loopg [21] V (fun bJ bK Z=> ∃j,j+bJ=V∧bK= ι (j:Nat)∧Hid (l=(preL (la.drop j) (lb.drop j)&&queL F out H sN g3 (s+1)))∧Hid (Below wv.heap.size wv Z))
           case atStart=>exact⟨0,by omega,rfl,J,κ ψ⟩
           case round=>
            clear J;obtain⟨j,hj,rfl,J,UJ⟩:=hrel
            rename World=>wj
            by_cases hja:j<V
            ·obtain⟨g4,rfl⟩: ∃g,gk=g+1:=⟨gk-1,by omega⟩;have bL:decide ((j:Int)<(V:Int))=true:=by simp;omega
             have bP:j<100000:=by have h1:=NX.o;have h2:=S.o;omega
             have bQ:(j:Int)<(nb:Int):=by have:=bj.o;omega
             have bR:(j:Int)<(V:Int):=by omega
             obtain⟨b1,o1,rfl,_,bk⟩:=Nds.at (Rd.below' N1.o UJ.o UJ.o.size) (by rw[←S.o];omega);obtain⟨b2,o2,rfl,_,Y⟩:=Nds.at (Rd.below' N2.o UJ.o UJ.o.size) (by rw[←ab.o];omega);obtain⟨f0,f1⟩:=bk j (by rw[←S.o];exact hja);obtain⟨d0,d1⟩:=Y j (by rw[←ab.o];omega);have HP:=κ (pre_step (a:=la) (b:=lb) (j:=j) (by rw[←S.o];exact hja) (by rw[←ab.o];omega));clear bk Y;generalize nP la j=p1 at f0 HP;generalize nC la j=p2 at f1 HP;generalize nP lb j=q1 at d0 HP;generalize nC lb j=q2 at d1 HP;by_cases hp:p1=q1
             ·by_cases hq:p2=q2
              ·have e1:(p1 != q1)=false:=by simp[hp]
               have e2:(p1==q1)=true:=by simp[hp]
               have e3:(p2 != q2)=false:=by simp[hq]
               have e4:(p2==q2)=true:=by simp[hq]
               have ae:Hid (l=(preL (la.drop (j+1)) (lb.drop (j+1))&&queL F out H sN g3 (s+1))):=κ (by rw[J.o,HP.o,e2,e4];rfl)
               go_wp2_with fail
               go_quiet (fail)
               rename Nat=>nq
               have UQ:Hid (Below wv.heap.size wv (wj.drewN nq)):=κ (Below.drewN' UJ.o _)
               go_wp2_with fail
               go_roundg g4
               case measure=>omega
               case rel=>exact⟨j+1,by omega,by go_num,ae,UQ⟩
              ·have e1:(p1 != q1)=false:=by simp[hp]
               have e2:(p1==q1)=true:=by simp[hp]
               have e3:(p2 != q2)=true:=by simp[hq]
               have e4:(p2==q2)=false:=by simp[hq]
               have ae:Hid (l=false):=κ (by rw[J.o,HP.o];simp[e4])
               go_wp2_with fail
               go_quiet (fail)
               go_wp2_with fail
               go_ret;exact⟨by rw[←RE.o,ae.o];rfl,bst U.o (bst UC.o (Below.drewN' UJ.o _))⟩
             ·have e1:(p1 != q1)=true:=by simp[hp]
              have e2:(p1==q1)=false:=by simp[hp]
              have ae:Hid (l=false):=κ (by rw[J.o,HP.o];simp[e2])
              go_wp2_with fail
              go_quiet (fail)
              go_wp2_with fail
              go_ret;exact⟨by rw[←RE.o,ae.o];rfl,bst U.o (bst UC.o (Below.drewN' UJ.o _))⟩
            ·have bL:decide ((j:Int)<(V:Int))=false:=by simp;omega
             have ae:Hid (l=queL F out H sN g3 (s+1)):=κ (by rw[J.o,List.drop_eq_nil_of_le (by rw[←S.o];omega)];rfl)
             go_wp2_with fail
             go_roundg g3
             case measure=>omega
             case rel=>exact⟨s+1,by omega,by go_num,ae,κ (bst UC.o UJ.o)⟩
       ·have bG:decide ((s:Int)<(sN:Int))=false:=by simp;omega
        obtain rfl:gk=0:=by omega
        have HT:Hid (l=true):=κ J.o
        go_wp2_with fail
        go_ret;exact⟨by rw[←RE.o,HT.o];rfl,bst U.o UB.o⟩
 ·have aM:=Bool.eq_false_iff.2 hR;have hF:Hid (quF n E (bgnP (sN:Int) wi ra ta nd ac sy) out sN=false):=κ (by unfold quF;rw[aM];rfl);rw[aM];clear hR aM
  go_wp2_with fail
  go_ret;exact⟨by rw[hF.o];rfl,U2.o⟩
end Hrq
end Go.Proofs.YtcccdikhfgpamaaGreat
