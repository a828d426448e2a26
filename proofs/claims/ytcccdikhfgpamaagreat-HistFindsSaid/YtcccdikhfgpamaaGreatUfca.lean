/- Texts side by side. -/
import Derived.Test.YtcccdikhfgpamaaGreatUfby
set_option linter.unusedVariables false
set_option linter.unusedSimpArgs false
set_option maxRecDepth 100000
set_option maxHeartbeats 16000000
namespace Go.Proofs.YtcccdikhfgpamaaGreat
open Kap Abv Go.ChangeShapes Go.WideShapes Go.ChangeAt Go.RowKit Go.Lib Mem Tre Ref3 Law3 Fix3 Cfg Crd CrdB CrdC St7 Bkp Bks Stk Apt Wpl Hpa Hpl Hws Hri Tl5 Hqp Apt
namespace Hcq
open Hrr Hod Hti Hbg Hgr Hdi Hof Hun Hsl Lat Lax Mdp Mde Mdd
open Lst (do_outs)
open Mdz (Mz Mz_of)
open Hck (WfO WfE chkF MadeI ordF_len)
open Mds (Pm plO)
open Mdq (Vp Vp_do gX_mem)
open Mdg (bgnP)
theorem hque_any(n:Int)(E:List He)(out:List (Int×Int))(sN:Nat)(wi ra ta:Int)(A B C Al Ar:Option Addr)(nl al sl c d f cL cR:Nat)(nd:List (Int×Int))(ac:List Int)(sy:List (Int×Int×Int×Nat))(w:World)(L1:Hid (nl=nd.length))(L2:Hid (al=ac.length))(L3:Hid (sl=sy.length))
  (hn:Hid (Nds w w.heap.size A nd))(ha:Hid (Ris w w.heap.size B ac))(hs:Hid (Smb w w.heap.size C sy))(hwn:Hid (WfN nd))(m1:nl≤1000)(m2:al≤1000)(m3:sl≤1000)(hcf:Hid (cfgF (sN:Int) wi ra ta nd ac sy=0))(V0:Hid (Vp 0 (bgnP (sN:Int) wi ra ta nd ac sy)))
  (hl:Hid (Rd w w.heap.size Al (hrow E)))(hH:Hid (WfH E))(hE:Hid (WfE E))(hm:E.length≤90)(ho:Hid (Nds w w.heap.size Ar out))(hmo:out.length≤100000):
  Calls Tryz.prog 14 #[.agg (vC (sN:Int) wi ra ta A nl c B al d C sl f),.int .i64 n,.slice Al E.length cL,.slice Ar out.length cR] w (MadeB (quF n E (bgnP (sN:Int) wi ra ta nd ac sy) out sN) w):=by
 have U0:=κ (β w (.cells (vC (sN:Int) wi ra ta A nl c B al d C sl f) 43));have K0:=κ (Blk.fresh w 43 (vC (sN:Int) wi ra ta A nl c B al d C sl f))
 go_enter Tryz.func14,Tryz.ntmps14
 go_upto_region 1 with fail
 generalize w.alloc (.cells (vC (sN:Int) wi ra ta A nl c B al d C sl f) 43)=w0 at U0 K0 ⊢;generalize w.heap.size=gB at K0 ⊢;obtain⟨k0,k1,k2,k3,k4,k5,k6⟩:=c7_of K0.o
 go_wp2_with fail
 refine(hbegin_any n E sN wi ra ta A B C Al nl al sl c d f cL nd ac sy w0 L1 L2 L3 (θ hn.o U0.o) (η ha.o U0.o) (κ (Rd.below' hs.o U0.o U0.o.size)) hwn m1 m2 m3 hcf (κ (Rd.below' hl.o U0.o U0.o.size)) hH (by omega)).mono ?_;rintro e w1 ⟨P,ar,au⟩;have U1:=κ (bst U0.o P);have aI:w.heap.size≤w0.heap.size:=U0.o.size;have K1:=κ (K0.o.below' P);clear k0 k1 k2 k3 k4 k5 k6 K0 U0;by_cases hR:rightF n E=true
 ·have hF:Hid (quF n E (bgnP (sN:Int) wi ra ta nd ac sy) out sN=((out.all fun o=>decide (0≤o.2))&&queL (letL E (ordF E) (bgnP (sN:Int) wi ra ta nd ac sy)) out (wholeF E) sN sN 0)):=κ (by unfold quF;rw[hR];rfl);obtain⟨gr,q,av,rfl,hM,hP,hB⟩:=au hR;have HR:=κ hR;have M3:=κ hM;have P3:=κ hP;have a5:Hid (w.heap.size≤av):=κ (by omega);clear hR ar au P hM hP hB aI
  go_wp2_with fail
  refine(cnO_any out Ar cR w1 (θ ho.o U1.o) hmo).mono ?_;rintro e w2 ⟨rfl,F⟩;have U2:=κ (bst U1.o F);have K2:=κ (K1.o.below' F);have M2:=κ (Mm_below M3.o F);clear F U1 K1 M3;obtain⟨oa,af⟩: ∃b,b=out.all fun o=>decide (0≤o.2):=⟨_,rfl⟩
  rw[←af]at hF;rw[←af];have aJ:=κ af;clear af;by_cases hng:oa=false
  ·have a6:Hid (quF n E (bgnP (sN:Int) wi ra ta nd ac sy) out sN=false):=κ (by rw[hF.o,hng];rfl);rw[hng]
   go_wp2_with fail
   go_ret;exact⟨by rw[a6.o];rfl,U2.o⟩
  have ag:oa=true:=by simpa using hng
  rw[ag];have OI:Hid (∀k,k<out.length→0≤nC out k):=κ (ids_at (fun v hv=>by have h:=aJ.o;rw[ag]at h;have h2:=List.all_eq_true.1 h.symm v hv;simpa using h2));have ah:Hid (quF n E (bgnP (sN:Int) wi ra ta nd ac sy) out sN=queL (letL E (ordF E) (bgnP (sN:Int) wi ra ta nd ac sy)) out (wholeF E) sN sN 0):=κ (by rw[hF.o,ag];rfl);clear hF aJ hng ag oa
  go_wp2_with fail
  refine(Hmk.marked_any E Al cL w2 (κ (Rd.below' hl.o U2.o U2.o.size)) HR.o (by omega)).mono ?_;rintro e w4 ⟨Ao,co,rfl,aw,ai,aK⟩;have OP:Hid (Ris w4 w4.heap.size Ao (nI (ordF E))):=κ aw;have U4:=κ (bst U2.o ai);have M4:=κ (Mm_below M2.o ai);have K4:=κ (K2.o.below' ai);have AO:=κ (rd_lt aw);obtain⟨vm,vo⟩:=Mdq.Vq_of M2.o (by rw[P3.o];exact V0.o);have I:0<q.nb:=by have h1:=vm.nb;have h2:=vm.sh;omega
  clear vm vo
  have FR:Hid (Far gr q.Ab Ao (ints (nI (ordF E)))):=κ (.inr fun a ha=>by
   have h1:=aK a ha
   have h2:=M2.o.blk.lt
   refine⟨by omega,fun b hb=>?_⟩
   have h3:=(World.ownsRow.lt M2.o.row b.block (by rw[hb];rfl)).2
   omega)
  clear I aK ai aw M2 U2 K2;have aj:Hid ((ordF E).length≤90):=κ (by have h:=ordF_len E;omega);have aL:Hid (∀a∈ordF E,a<E.length):=κ (fun a ha=>ordN_lt ha)
  have ax:Hid (∀u∈letL E (ordF E) (bgnP (sN:Int) wi ra ta nd ac sy),0≤u.2):=κ (let_ids E _ 0 _ (ip_begin _ _ _ _ _ _ _) V0.o (fun i=>by
   by_cases hi:i<E.length
   ·exact⟨(hE.o i hi).t,(hE.o i hi).p,(hE.o i hi).q⟩
   ·have e:gH E i=he0:=by unfold gH;rw[List.getD,List.getElem?_eq_none (by omega)];rfl
    rw[e];exact⟨⟨by decide,by decide⟩,⟨by decide,by decide⟩,by decide,by decide⟩))
  have ay:Hid (1≤(sN:Int)∧(sN:Int)≤1000):=κ V0.o.sh;rw[←P3.o]at V0;have ak:Hid (letL E (ordF E) (bgnP (sN:Int) wi ra ta nd ac sy)=[]++letL E ((ordF E).drop 0) (plO q)):=κ (by rw[P3.o];rfl);clear P3;obtain⟨Q,az⟩: ∃r,r=quF n E (bgnP (sN:Int) wi ra ta nd ac sy) out sN:=⟨_,rfl⟩;rw[←az]at ah;have RE:=κ az;clear az;generalize a7:letL E (ordF E) (bgnP (sN:Int) wi ra ta nd ac sy)=LL at ah ax ak;clear a7;generalize ordF E=L at OP FR aj aL ak AO ⊢;have QA:Hid (q.Ab=q.Ab):=κ rfl;generalize aM:q.Ab=Ab at FR QA;have aN:Hid (q.Ab=Ab):=κ aM;clear aM QA;have aO:Hid (w.heap.size≤w4.heap.size):=κ U4.o.size;have aP:Hid (w4.heap.size≤w4.heap.size):=κ τ;have W0:Hid (World.ownsRow w4 w4.heap.size 93 2 (.slice none 0 0) 0 (nds [])):=κ (World.ownsRow_nil _ _ _ _);have aQ:Hid (∀z,(Value.slice none 0 0).ownBlock=some z→Mz z gr q):=κ (fun z hz=>by simp[Value.ownBlock]at hz);obtain⟨i0,hi,a8,a9,ba⟩:=info_parts out_i;generalize bb:w4.heap.size=BL at AO aO W0 aP;have S:Hid (BL≤w4.heap.size):=κ (by omega);clear bb aP
  go_wp2_with fail
  go_loopg [11,36] L.length (fun g9 bc bd w'=> ∃(i:Nat) (qk:Mq) (j:List (Int×Int)) (Aw:Option Addr) (H cw:Nat),i+g9=L.length∧bd= ι i∧bc= .slice Aw H cw∧Hid (H=j.length∧H≤1000*i)∧Hid (LL=j++letL E (L.drop i) (plO qk))∧Hid (Vp i (plO qk))∧Hid (Mm av w' gr qk)∧Hid (qk.Ab=Ab)∧Hid (Ris w' w'.heap.size Ao (nI L))∧Hid (Blk w' gB 43 (vC (sN:Int) wi ra ta A nl c B al d C sl f))∧Hid (World.ownsRow w' BL 93 2 (.slice Aw H cw) H (nds j))∧Hid (∀z,(Value.slice Aw H cw).ownBlock=some z→Mz z gr qk)∧Hid (BL≤w'.heap.size)∧Hid (Below w.heap.size w w'))
  case atStart=>exact⟨0,q,[],none,0,0,by omega,rfl,rfl,κ ⟨rfl,τ⟩,ak,V0,M4,aN,OP,K4,W0,aQ,S,U4⟩
  case round=>
   clear ak V0 M4 aN OP U4 K4 W0 aQ S;obtain⟨i,qk,j,Aw,H,cw,bu,rfl,rfl,J,HC,VP,MK,QA,OP,KC,OW,MZ,S,U⟩:=hrel
   rename World=>O
   by_cases hlt:i<L.length
   ·obtain⟨g,rfl⟩: ∃g,gk=g+1:=⟨gk-1,by omega⟩;obtain⟨x,hx⟩: ∃x,x=L[i]:=⟨_,rfl⟩;have aR:x<E.length:=by rw[hx];exact aL.o _ (List.getElem_mem hlt)
    have HD:Hid (L.drop i=x :: L.drop (i+1)):=κ (by rw[hx];exact List.drop_eq_getElem_cons hlt);obtain⟨b,o,rfl,hb,hc⟩:=Ris.at (i:=i) OP.o (by simpa[nI] using hlt);have ci:=hc i (by simpa[nI] using hlt);have hg:gI (nI L) i=(x:Int):=by rw[hx];simp[gI,nI,hlt]
    rw[hg]at ci;have HG:=κ hg;have bv:Hid (i<(nI L).length):=κ (by simpa[nI] using hlt);clear hc hb hg hx;obtain⟨b2,o2,rfl,F,aa⟩:=hes_at (Rd.below' hl.o U.o U.o.size) (by omega);have lo:=ldOpM (aa x aR);clear aa F;have HX:=κ aR;have be:decide ((i:Int)<(L.length:Int))=true:=by simp;omega
    have SV:=κ (Mdq.Vq_of MK.o VP.o);have Z:=κ (hE.o x HX.o);have HS:Hid (LL=j++((doF (plO qk) (opH (gH E x))).2.2.2++letL E (L.drop (i+1)) (doF (plO qk) (opH (gH E x))).1)):=κ (by rw[HC.o,HD.o];rfl);have DO:=κ (do_outs VP.o (by have:=aj.o;omega) (opH (gH E x)));have am:=κ (Vp_do VP.o (opH (gH E x)) Z.o.t Z.o.p Z.o.q);have aS:=VP.o.ep;have bw:i≤90:=by have:=aj.o;omega
    have bx:(x:Int)<(E.length:Int):=by omega
    clear HC HD VP HX;generalize gH E x=X at lo Z HS am DO;have ab:=do_any av gr i qk X.m.k X.m.a X.m.s X.m.p X.m.q X.m.n X.m.t X.m.i X.m.y X.m.z X.m.v X.sx X.ex X.m.x X.sw O MK (κ SV.o.1) (by omega) (κ SV.o.2) ⟨aS.1,by have:=aS.2;show(plO qk).ep≤_;omega⟩ Z.o.p Z.o.q Z.o.y Z.o.v Z.o.s Z.o.e.1 Z.o.e.2;have hX:(⟨⟨X.m.k,X.m.a,X.m.s,X.m.x,X.m.p,X.m.q,X.m.n,X.m.t,X.m.i,X.m.y,X.m.z,X.m.v⟩,X.sw,X.sx,X.ex⟩:Opn)=opH X:=rfl;rw[hX]at ab;generalize doF (plO qk) (opH X)=R at ab HS am DO;obtain⟨P1,cd,id,l⟩:=R;simp only at ab HS am DO
    go_wp2_with (refine wpList_ld _ _ rfl rfl rfl lo ?_)
    refine ab.mono ?_;rintro e w2 ⟨q1,A2,n2,c2,rfl,ad,aT,_,hM,hP,hA,hK,hZ⟩;have O2:Hid (Ris w2 w2.heap.size (some (α b o)) (nI L)):=κ (rd_kp OP.o hK (by rw[QA.o];exact FR.o));have U2:=κ (below_kp U.o MK.o hK a5.o);have aU:=κ (blk_do KC.o MK.o (by decide) (by decide) hK);have W2:=κ (own_kp OW.o MK.o (by decide) (by decide) hK);have aA:Hid (∀z,(Value.slice Aw H cw).ownBlock=some z→Mz z gr q1):=κ (fun z hz=>hZ z (World.ownsRow.lt OW.o z hz).2 (MZ.o z hz));have aV:=κ (Nat.le_trans S.o hK.size);have an:=κ ad;have N2:=κ aT;have M2:=κ hM;have P2:=κ hP;have bf:Hid (q1.Ab=Ab):=κ (hA.trans QA.o);clear lo ab hX hM hP hA hK OP U MK QA SV ad aT hZ KC OW S MZ ci;have ub:=β w2 (.cells (vI cd id) 74);have O3:Hid (Ris (w2.alloc (.cells (vI cd id) 74)) (w2.alloc (.cells (vI cd id) 74)).heap.size (some (α b o)) (nI L)):=κ (Rd.below' O2.o ub ub.size);have U3:=κ (bst U2.o ub);have M3:=κ (Mm_below M2.o ub);have aB:=κ (aU.o.below' ub);have W3:=own_below W2 ub;have N3:=θ N2.o ub;have ao:Hid (BL≤(w2.alloc (.cells (vI cd id) 74)).heap.size):=κ (Nat.le_trans aV.o ub.size);clear ub O2 U2 M2 aU W2 N2 aV
    go_upto_region 9 with fail
    generalize w2.alloc (.cells (vI cd id) 74)=w3 at O3 U3 M3 aB W3 N3 ao ⊢;have HL:Hid ((nds l).length=n2*2):=κ (by rw[nds_len,an.o]);have bg:n2≤1000:=by rw[an.o];exact DO.o
    have bh:H≤90000:=by have:=J.o.2;omega
    have ap:Hid (H+n2≤maxLen∧(H+n2)*16≤140737488355328∧H+n2≤1000*(i+1)):=κ ⟨by unfold maxLen;omega,by omega,by have:=J.o.2;omega⟩;clear bg bh
    go_upto_region 10 with(at_builtin;refine wpList_appB (nm:=H+n2) W3 N3 rfl rfl _ _ _ rfl i0 (.agg #[.int .i64 0,.int .i64 0]) 16 Tryz.underlying47 hi a8 a9 ba rfl (by decide) rfl rfl HL.o (nds_one l) ap.o.1 ap.o.2.1 ao.o ?_;intro A5 c5 w5 aW G aX)
    have M5:=κ (mm_grown M3.o W3.o G.o aA.o);have bi:=κ (mz_push aX.o aA.o (Mz_of M3.o τ));have O5:Hid (Ris w5 w5.heap.size (some (α b o)) (nI L)):=κ (rd_off O3.o W3.o AO.o G.o);have bj:=κ (blk_own_grown aB.o W3.o (by decide) G.o);have U5:=κ (grown_below U3.o W3.o G.o aO.o U3.o.size);have bk:=κ (Nat.le_trans ao.o G.o.size);have W5:Hid (World.ownsRow w5 BL 93 2 (.slice A5 (H+n2) c5) (H+n2) (nds (j++l))):=κ (by have h:=aW.o;rw[show nds (j++l)=nds j++nds l from by simp[nds]];exact h);clear aW G aX M3 W3 aA O3 aB U3 ao N3 HL;have bl:Hid (Vp (i+1) (plO q1)):=κ (by rw[P2.o];exact am.o);have HN:Hid (LL=(j++l)++letL E (L.drop (i+1)) (plO q1)):=κ (by rw[HS.o,P2.o,List.append_assoc]);have bn:Hid (H+n2=(j++l).length∧H+n2≤1000*(i+1)):=κ ⟨by rw[List.length_append,J.o.1,an.o],ap.o.2.2⟩;clear J HS ap an Z
    go_wp2_with fail
    go_roundg g
    case measure=>omega
    case rel=>exact⟨i+1,q1,j++l,A5,H+n2,c5,by omega,by go_num,rfl,bn,HN,bl,M5,bf,O5,bj,W5,bi,bk,U5⟩
   ·have be:decide ((i:Int)<(L.length:Int))=false:=by simp;omega
    have hD:L.drop i=[]:=List.drop_eq_nil_of_le (by omega);have HA:Hid (LL=j):=κ (by rw[HC.o,hD];simp[letL]);have NW:Hid (Nds O O.heap.size Aw j):=κ (Rd.of_own OW.o);have WI:Hid (∀k,k<j.length→0≤nC j k):=κ (ids_at (by rw[←HA.o];exact ax.o));have bo:=J.o.1;have WM:Hid (j.length≤100000):=κ (by have:=J.o.2;have:=aj.o;omega);subst bo;obtain⟨V,aC⟩: ∃b,b=wholeF E:=⟨_,rfl⟩;have HF:Hid (Q=queL j out V sN sN 0):=κ (by rw[ah.o,HA.o,aC]);have CE:=cnE_any E Al cL O (κ (Rd.below' hl.o U.o U.o.size)) (by omega);rw[←aC]at CE;clear hD HC VP MK QA OP MZ OW J S HA ah ax aC
    go_upto_region 11 with fail
    go_cut [16] (fun s wx=>s= .bool V∧Hid (Below O.heap.size O wx))
    case first=>
     go_wp2_with fail
     refine CE.mono ?_;rintro e w6 ⟨rfl,aY⟩;have B6:=κ aY;clear aY;cases V with
     |true=>go_wp2_with fail;go_meet;exact⟨rfl,B6⟩
     |false=>go_wp2_with fail;go_meet;exact⟨rfl,B6⟩
    case rest=>
     obtain⟨rfl,UX⟩:=hcut
     rename World=>w7
     clear CE;have KX:=κ (KC.o.below' UX.o);obtain⟨k0,_,_,_,_,_,_⟩:=c7_of KX.o
     go_wp2_with fail
     go_loopg [59] sN (fun aZ bp w'=> ∃s,s+aZ=sN∧bp= ι (s:Nat)∧Hid (Q=queL j out V sN aZ s)∧Hid (Below O.heap.size O w'))
     case atStart=>exact⟨0,by omega,rfl,HF,UX⟩
     case round=>
      clear HF k0 KX UX;obtain⟨s,hs,rfl,aD,UB⟩:=hrel
      rename World=>wt
      have KT:=κ (KC.o.below' UB.o);obtain⟨t0,_,_,_,_,_,_⟩:=c7_of KT.o;by_cases hsn:s<sN
      ·obtain⟨g3,rfl⟩: ∃g,gk=g+1:=⟨gk-1,by omega⟩;have bq:decide ((s:Int)<(sN:Int))=true:=by simp;omega
       have HS:Hid (Q=(shF j out V sN s&&queL j out V sN g3 (s+1))):=κ aD.o;have bz:(s:Int)<9223372036854775807:=by have:=ay.o;omega
       clear aD
       go_upto_region 15 with fail
       go_cut [18,19] (fun b a wx=> ∃A1 c1 A2 c2,a= .slice A1 (ofF out sN s).length c1∧b= .slice A2 (ofF j sN s).length c2∧Hid (Nds wx wx.heap.size A1 (ofF out sN s))∧Hid (Nds wx wx.heap.size A2 (ofF j sN s))∧Hid ((ofF j sN s).length≤c2)∧Hid (Below O.heap.size O wx))
       case first=>
        let T:World→Prop:=fun w'=>w'.cell? (α gB 0)=some (ι (sN:Int))∧True
        have HT:Hid (T wt.drew):=κ ⟨t0,trivial⟩;have HD:=κ (Below.drew UB.o);have CA:=fun W hb=>of_any out Ar cR sN s W (θ ho.o (bst U.o hb)) OI ay.o hmo
        have CB:=fun W hb=>of_any j Aw cw sN s W (θ NW.o hb) WI ay.o WM.o
        have TT:Hid (∀W,Below O.heap.size O W→T W):=κ (fun W hb=>⟨(KC.o.below' hb).cell 0,trivial⟩);refine Ω T [] ?_;refine jA 0 HT.o ?_;refine jA 1 HT.o ?_;refine jA 2 HT.o ?_;refine jB 3 HT.o ?_;refine jA 5 HT.o ?_;refine jA 6 HT.o ?_;refine jA 7 HT.o ?_;refine jB 8 HT.o ?_;refine jN 4 fun K' hK=>?_
        go_simp;refine(CB _ HD.o).mono ?_;rintro e w6 ⟨A2,c2,rfl,a0,P,aa⟩;have X1:=κ a0;have XC:=κ aa;have B1:=κ (bst HD.o P);have br:=κ (TT.o _ B1.o);clear a0 P aa
        go_wp2_with fail
        refine hK.out _ _ br.o ?_;clear hK K';refine jP ?_;refine jN 9 fun K' hK=>?_
        go_simp;refine(CA _ B1.o).mono ?_;rintro e w7 ⟨A1,c1,rfl,ad,F,_⟩;have X2:=κ ad;have Y1:=θ X1.o F;have B2:=κ (bst B1.o F);have aE:=κ (TT.o _ B2.o);clear ad F
        go_wp2_with fail
        refine hK.out _ _ aE.o ?_;clear hK K';refine jP ?_;refine jA 10 aE.o ?_;refine jA 11 aE.o ?_;refine Δ ?_
        go_wp2_with fail
        go_meet;exact⟨A1,c1,A2,c2,rfl,rfl,X2,Y1,XC,B2⟩
       case rest=>
        obtain⟨A1,c1,A2,c2,rfl,rfl,N1,N2,CC,UC⟩:=hcut
        rename World=>wv
        clear t0 KT UB;have SG:=κ (sh_gt (want:=j) (out:=out) (wh:=V) (n:=sN) (s:=s));have SW:=κ (sh_wh (want:=j) (out:=out) (n:=sN) (s:=s));have SO:=κ (sh_ok (want:=j) (out:=out) (wh:=V) (n:=sN) (s:=s));obtain⟨sv,K⟩: ∃v,v=shF j out V sN s:=⟨_,rfl⟩;rw[←K]at HS;have SV:=κ K;clear K;have NX:Hid ((ofF out sN s).length≤100000):=κ (Nat.le_trans (List.length_filter_le _ _) hmo);have EQ:=fun Y=>eqO_any (ofF out sN s) (ofF j sN s) (ofF out sN s).length A1 A2 c1 c2 wv N1 N2 (κ rfl) Y NX.o
        obtain⟨na,aq⟩: ∃n,n=(ofF out sN s).length:=⟨_,rfl⟩;obtain⟨nb,I⟩: ∃n,n=(ofF j sN s).length:=⟨_,rfl⟩;rw[←aq,←I]at SG SO EQ;rw[←aq,←I]at SW;rw[←I]at CC;simp only[←aq,←I];clear aq I NX N1 N2;generalize preL (ofF out sN s) (ofF j sN s)=pr at SO EQ;have a1:Hid (nb<na→sv=false):=κ (fun h=>by rw[SV.o];exact SG.o h);have a2:Hid (V=true→na<nb→sv=false):=κ (fun h1 h=>by rw[SV.o,h1];exact SW.o h);have aF:Hid (na≤nb→(V=true→ ¬na<nb)→sv=pr):=κ (fun h1 h=>by rw[SV.o];exact SO.o h1 h);clear SG SW SO SV
        go_upto_region 16 with fail
        obtain⟨sb,a3⟩: ∃b,b= !sv:=⟨_,rfl⟩;have SB:=κ a3;clear a3
        go_cut [95] (fun s6 wx=>s6= .bool sb∧Hid (Below O.heap.size O wx))
        case first=>
         by_cases hg:nb<na
         ·have bs:decide ((nb:Int)<(na:Int))=true:=by simp;omega
          have HV:=κ (a1.o hg)
          go_wp2_with fail
          go_meet;exact⟨by rw[SB.o,HV.o];rfl,UC⟩
         ·have bs:decide ((nb:Int)<(na:Int))=false:=by simp;omega
          have Y:Hid (na≤nb):=κ (by omega);have a4:=EQ Y;have bA:na≤c2:=by have:=Y.o;have:=CC.o;omega
          cases V with
          |true=>
           by_cases hh:na<nb
           ·have bt:decide ((na:Int)<(nb:Int))=true:=by simp;omega
            have HV:=κ (a2.o rfl hh)
            go_wp2_with fail
            go_meet;exact⟨by rw[SB.o,HV.o];rfl,UC⟩
           ·have bt:decide ((na:Int)<(nb:Int))=false:=by simp;omega
            have HV:=κ (aF.o Y.o (fun _=>hh))
            go_wp2_with fail
            refine a4.mono ?_;rintro e w8 ⟨rfl,ae⟩;have B8:=κ (bst UC.o ae);clear ae
            go_wp2_with fail
            go_meet;exact⟨by rw[SB.o,HV.o],B8⟩
          |false=>
           have HV:=κ (aF.o Y.o (fun h=>absurd h (by decide)))
           go_wp2_with fail
           refine a4.mono ?_;rintro e w8 ⟨rfl,ae⟩;have B8:=κ (bst UC.o ae);clear ae
           go_wp2_with fail
           go_meet;exact⟨by rw[SB.o,HV.o],B8⟩
        case rest=>
         obtain⟨rfl,UD⟩:=hcut;clear a1 a2 aF EQ CC UC;cases sb with
         |true=>
          have K:sv=false:=by
           have h:=SB.o;cases sv with
           |false=>rfl
           |true=>exact absurd h (by decide)
          have aG:Hid (Q=false):=κ (by rw[HS.o,K];rfl)
          go_wp2_with fail
          go_ret;exact⟨by rw[←RE.o,aG.o];rfl,bst U.o UD.o⟩
         |false=>
          have K:sv=true:=by
           have h:=SB.o;cases sv with
           |true=>rfl
           |false=>exact absurd h (by decide)
          have aG:Hid (Q=queL j out V sN g3 (s+1)):=κ (by rw[HS.o,K];rfl)
          go_wp2_with fail
          go_roundg g3
          case measure=>omega
          case rel=>exact⟨s+1,by omega,by go_num,aG,UD⟩
      ·have bq:decide ((s:Int)<(sN:Int))=false:=by simp;omega
       obtain rfl:gk=0:=by omega
       have HT:Hid (Q=true):=κ aD.o
       go_wp2_with fail
       go_ret;exact⟨by rw[←RE.o,HT.o];rfl,bst U.o UB.o⟩
 ·have aH:=Bool.eq_false_iff.2 hR;have hF:Hid (quF n E (bgnP (sN:Int) wi ra ta nd ac sy) out sN=false):=κ (by unfold quF;rw[aH];rfl);have he:=ar aH;subst he;clear hR aH ar au aI
  go_wp2_with fail
  go_ret;exact⟨by rw[hF.o];rfl,U1.o⟩
end Hcq
namespace Htd
open Rul6 Fcf Fown Rul7 Gdc Hte
open Hck (WfO WfE chkF MadeI)
open Hcc (hchk_any)
open Mdg (bgnP)
open Hcq (hque_any)
theorem rd_new(w:World)(te:TypeId)(xs:List Value):Rd (w.alloc (.cells xs.toArray te)) (w.alloc (.cells xs.toArray te)).heap.size (some ⟨w.heap.size,0,none⟩) xs:=
 .inr ⟨w.heap.size,0,rfl,by simp,fun i v a=>by rw[Nat.zero_add,(Blk.fresh w te xs.toArray).cell i];simpa using a⟩
theorem rd_at{w:World}{B b:Nat}{xs:List Value}(g:Nat)(h:Rd w B (some ⟨b,0,none⟩) xs)(e:g=b):Rd w B (some ⟨g,0,none⟩) xs:=e ▸ h
theorem wf_k:WfO kE:=⟨⟨by decide,by decide⟩,⟨by decide,by decide⟩,⟨by decide,by decide⟩,by decide,by decide,⟨by decide,by decide⟩,⟨by decide,by decide⟩⟩
theorem wf_o:WfO oE:=⟨⟨by decide,by decide⟩,⟨by decide,by decide⟩,⟨by decide,by decide⟩,by decide,by decide,⟨by decide,by decide⟩,⟨by decide,by decide⟩⟩
theorem wf_p:WfO pE:=⟨⟨by decide,by decide⟩,⟨by decide,by decide⟩,⟨by decide,by decide⟩,by decide,by decide,⟨by decide,by decide⟩,⟨by decide,by decide⟩⟩
theorem two{p:Nat→Prop}(h0:p 0)(h1:p 1): ∀i,i<2→p i
 |0,_=>h0
 |1,_=>h1
 |i+2,h=>absurd h (by omega)
theorem told10_any(w:World):Calls Tryz.prog 8 #[] w (MadeB true w):=by
 have q1:1+modF 0 3=1:=by decide+kernel
 have q2:modF 0 4=0:=by decide+kernel
 have q3:1+modF 0 6=1:=by decide+kernel
 have q4:1+modF 0 8=1:=by decide+kernel
 have FX:=fun W=>fix5_any 0 0 0 0 none none none 0 0 0 [] [] [] W Rd.nil Rd.nil Rd.nil (fun i hi=>by simp at hi) (fun i hi=>by simp at hi) (fun i hi=>by simp at hi) (by decide) (by decide) (by decide)
 rw[eA,eN,eS,q1,q2,q3,q4]at FX;clear q1 q2 q3 q4;have TX:=fun W A B C c d f h1 h2 h3=>to5_any 1 0 1 1 A B C c d f ndE acE syE W h1 h2 h3 wnE (by decide) (by decide) (by decide)
 unfold MadeCf at FX TX;rw[show ndE.length=1 from rfl,show acE.length=1 from rfl,show syE.length=1 from rfl]at FX TX
 go_enter Tryz.func8,Tryz.ntmps8
 go_wp2_with fail
 refine(FX _).mono ?_;rintro e w1 ⟨A1,B1,C1,c1,d1,f1,rfl,ao,ap,aq,ar⟩;have b1:=κ ar;clear ar FX
 go_wp2_with fail
 refine(TX _ _ _ _ _ _ _ ao ap aq).mono ?_;rintro e w2 ⟨v,x,h,y,z,E,rfl,au,av,aw,ax⟩;have b2:=κ (CrdB.below_step b1.o ax);clear b1 ao ap aq ax TX;have U2:=β w2 (.cells (vC 1 0 1 1 v 1 y x 1 z h 1 E) 43);have v2:=κ (Blk.fresh w2 43 (vC 1 0 1 1 v 1 y x 1 z h 1 E));have b3:=κ (CrdB.below_step b2.o U2);have N3:=θ au U2;have R3:=η av U2;have S3:Hid (Smb (w2.alloc (.cells (vC 1 0 1 1 v 1 y x 1 z h 1 E) 43)) (w2.alloc (.cells (vC 1 0 1 1 v 1 y x 1 z h 1 E) 43)).heap.size h syE):=Rd.below' aw U2 U2.size;clear au av aw U2 b2
 go_upto_region 2 with fail
 generalize w2.alloc (.cells (vC 1 0 1 1 v 1 y x 1 z h 1 E) 43)=w3 at b3 v2 N3 R3 S3 ⊢;generalize w2.heap.size=gK at v2 ⊢
 go_upto_region 3 with(refine wpList_st _ _ _ rfl rfl rfl rfl (st21 _ kE) ?_)
 have Z:=β w3 (.cells (hA kE) 81);have KK:=κ (Blk.fresh w3 81 (hA kE));have b4:=κ (bst b3.o Z);have v4:=κ (v2.o.below' Z);have N4:=θ N3.o Z;have R4:=η R3.o Z;have S4:Hid (Smb (w3.alloc (.cells (hA kE) 81)) (w3.alloc (.cells (hA kE) 81)).heap.size h syE):=κ (Rd.below' S3.o Z Z.size);clear Z b3 v2 N3 R3 S3;generalize w3.alloc (.cells (hA kE) 81)=w4 at b4 v4 N4 R4 S4 KK ⊢;generalize w3.heap.size=gk at KK ⊢
 go_wp2_with fail
 refine(Rul3.order_any 0 0 false 10 2 0 0 _).mono ?_;rintro e Q ⟨rfl,k⟩;have b5:=κ (bst b4.o k);have v5:=κ (v4.o.below' k);have N5:=θ N4.o k;have R5:=η R4.o k;have S5:Hid (Smb Q Q.heap.size h syE):=κ (Rd.below' S4.o k k.size);have ay:=κ (KK.o.below' k);clear k b4 v4 N4 R4 S4 KK
 go_upto_region 4 with(refine wpList_st _ _ _ rfl rfl rfl rfl (st21 _ oE) ?_)
 have R:=β Q (.cells (hA oE) 81);have KO:=κ (Blk.fresh Q 81 (hA oE));have b6:=κ (bst b5.o R);have v6:=κ (v5.o.below' R);have N6:=θ N5.o R;have R6:=η R5.o R;have S6:Hid (Smb (Q.alloc (.cells (hA oE) 81)) (Q.alloc (.cells (hA oE) 81)).heap.size h syE):=κ (Rd.below' S5.o R R.size);have aa:=κ (ay.o.below' R);clear R b5 v5 N5 R5 S5 ay;generalize Q.alloc (.cells (hA oE) 81)=w6 at b6 v6 N6 R6 S6 aa KO ⊢;generalize Q.heap.size=go at KO ⊢;have lo:=ld21 (h21_blk KO.o)
 go_upto_region 5 with(first|(refine wpList_ld _ _ rfl rfl rfl lo ?_)|(refine wpList_st _ _ _ rfl rfl rfl rfl (st21 _ oE) ?_))
 clear lo;obtain⟨gp,ab⟩:=ν w6.heap.size;have UP:=κ (β w6 (.cells (hA oE) 81));have KP:=κ (ζ ab (Blk.fresh w6 81 (hA oE)));have az:Hid (w6.heap.size≤gp):=κ (by omega);simp only[←ab];clear ab;generalize w6.alloc (.cells (hA oE) 81)=w7 at UP KP ⊢;have fz:=KP.o.thaw 2;have fc:=χ (KP.o.cell 2)
 go_upto_region 6 with fail
 have F:=UP.o.setCell (p:=(α gp 2)) az.o (ι 1);have ac:Hid (Blk (w7.setCell (α gp 2) (ι 1)) gp 81 (hA pE)):=κ (blk_st KP.o 2 (ι 1));have b8:=κ (bst b6.o F);have v8:=κ (v6.o.below' F);have N8:=θ N6.o F;have R8:=η R6.o F;have S8:Hid (Smb (w7.setCell (α gp 2) (ι 1)) (w7.setCell (α gp 2) (ι 1)).heap.size h syE):=κ (Rd.below' S6.o F F.size);have G:=κ (aa.o.below' F);have ad:=κ (KO.o.below' F);clear UP KP fz fc az b6 v6 N6 R6 S6 aa KO F;generalize w7.setCell (α gp 2) (ι 1)=w8 at b8 v8 N8 R8 S8 G ad ac ⊢;obtain⟨H,I,J,K,L,O,P⟩:=c7_of v8.o;have l:=ld21 (h21_blk G.o);have m:=ld21 (h21_blk ad.o);have b:=β w8 (.cells (hrow [kE,oE]).toArray 81);have j:=hchk_any 2 [kE,oE] 1 0 1 1 v x h (some (α w8.heap.size 0)) 1 1 1 y z E 2 ndE acE syE (w8.alloc (.cells (hrow [kE,oE]).toArray 81)) rfl rfl rfl (θ N8.o b) (η R8.o b) (κ (Rd.below' S8.o b b.size)) (κ wnE) (by decide) (by decide) (by decide) (κ cfE) (κ vE) (κ (rd_new w8 81 (hrow [kE,oE]))) (κ (two (by decide) (by decide))) (κ (two (wf_k) (wf_o))) (by decide);rw[show bgnP ((1:Nat):Int) 0 1 1 ndE acE syE=P0 from rfl,t1]at j
 go_wp2_with (first|(refine wpList_ld _ _ rfl rfl rfl l ?_)|(refine wpList_ld _ _ rfl rfl rfl m ?_))
 refine j.mono ?_;rintro e w9 ⟨rfl,aA⟩;have a:=bst b aA;have b9:=κ (bst b8.o a);have v9:=κ (v8.o.below' a);have N9:=θ N8.o a;have R9:=η R8.o a;have S9:Hid (Smb w9 w9.heap.size h syE):=κ (Rd.below' S8.o a a.size);have ae:=κ (G.o.below' a);have af:=κ (ac.o.below' a);clear j b a aA H I J K L O P l m b8 v8 N8 R8 S8 G ac ad;obtain⟨H,I,J,K,L,O,P⟩:=c7_of v9.o;have l:=ld21 (h21_blk ae.o);have m:=ld21 (h21_blk af.o);have b:=β w9 (.cells (hrow [kE,pE]).toArray 81);have j:=hchk_any 2 [kE,pE] 1 0 1 1 v x h (some (α w9.heap.size 0)) 1 1 1 y z E 2 ndE acE syE (w9.alloc (.cells (hrow [kE,pE]).toArray 81)) rfl rfl rfl (θ N9.o b) (η R9.o b) (κ (Rd.below' S9.o b b.size)) (κ wnE) (by decide) (by decide) (by decide) (κ cfE) (κ vE) (κ (rd_new w9 81 (hrow [kE,pE]))) (κ (two (by decide) (by decide))) (κ (two (wf_k) (wf_p))) (by decide);rw[show bgnP ((1:Nat):Int) 0 1 1 ndE acE syE=P0 from rfl,t2]at j
 go_wp2_with (first|(refine wpList_lg _ _ rfl rfl rfl l ?_)|(refine wpList_lg _ _ rfl rfl rfl m ?_))
 refine j.mono ?_;rintro e n ⟨rfl,S⟩;have a:=bst b S;have aB:=κ (bst b9.o a);have ag:=κ (v9.o.below' a);have ah:=θ N9.o a;have ai:=η R9.o a;have aj:Hid (Smb n n.heap.size h syE):=κ (Rd.below' S9.o a a.size);have q:=κ (ae.o.below' a);have r:=κ (af.o.below' a);clear j b a S H I J K L O P l m b9 v9 N9 R9 S9 ae af;obtain⟨H,I,J,K,L,O,P⟩:=c7_of ag.o;have l:=ld21 (h21_blk q.o);have m:=ld21 (h21_blk r.o);have b:=β n (.cells (hrow [kE,pE]).toArray 81);have j:=hchk_any 1 [kE,pE] 1 0 1 1 v x h (some (α n.heap.size 0)) 1 1 1 y z E 2 ndE acE syE (n.alloc (.cells (hrow [kE,pE]).toArray 81)) rfl rfl rfl (θ ah.o b) (η ai.o b) (κ (Rd.below' aj.o b b.size)) (κ wnE) (by decide) (by decide) (by decide) (κ cfE) (κ vE) (κ (rd_new n 81 (hrow [kE,pE]))) (κ (two (by decide) (by decide))) (κ (two (wf_k) (wf_p))) (by decide);rw[show bgnP ((1:Nat):Int) 0 1 1 ndE acE syE=P0 from rfl,t3]at j
 go_wp2_with (first|(refine wpList_lg _ _ rfl rfl rfl l ?_)|(refine wpList_lg _ _ rfl rfl rfl m ?_))
 refine j.mono ?_;rintro e g ⟨rfl,T⟩;have a:=bst b T;have aC:=κ (bst aB.o a);have ak:=κ (ag.o.below' a);have al:=θ ah.o a;have am:=η ai.o a;have an:Hid (Smb g g.heap.size h syE):=κ (Rd.below' aj.o a a.size);have s:=κ (q.o.below' a);have t:=κ (r.o.below' a);clear j b a T H I J K L O P l m aB ag ah ai aj q r;obtain⟨H,I,J,K,L,O,P⟩:=c7_of ak.o;have l:=ld21 (h21_blk s.o);have m:=ld21 (h21_blk t.o);have b:Below g.heap.size g ((g.alloc (.cells (hrow [kE,pE]).toArray 81)).alloc (.cells (nds [(0,0)]).toArray 93)):=(β g (.cells (hrow [kE,pE]).toArray 81)).alloc (by simp) _;have UB:=β (g.alloc (.cells (hrow [kE,pE]).toArray 81)) (.cells (nds [(0,0)]).toArray 93);have j:=hque_any 2 [kE,pE] [(0,0)] 1 0 1 1 v x h (some (α g.heap.size 0)) (some (α (g.heap.size+1) 0)) 1 1 1 y z E 2 1 ndE acE syE ((g.alloc (.cells (hrow [kE,pE]).toArray 81)).alloc (.cells (nds [(0,0)]).toArray 93)) rfl rfl rfl (θ al.o b) (η am.o b) (κ (Rd.below' an.o b b.size)) (κ wnE) (by decide) (by decide) (by decide) (κ cfE) (κ vE) (κ (Rd.below' (rd_new g 81 (hrow [kE,pE])) UB UB.size)) (κ (two (by decide) (by decide))) (κ (two (wf_k) (wf_p))) (by decide) (κ (rd_at (g.heap.size+1) (rd_new (g.alloc (.cells (hrow [kE,pE]).toArray 81)) 93 (nds [(0,0)])) (by simp))) (by decide);rw[show bgnP ((1:Nat):Int) 0 1 1 ndE acE syE=P0 from rfl,t4]at j
 go_wp2_with (first|(refine wpList_lg _ _ rfl rfl rfl l ?_)|(refine wpList_lg _ _ rfl rfl rfl m ?_))
 refine j.mono ?_;rintro e o ⟨rfl,U⟩;have a:=bst b U;have aD:=κ (bst aC.o a);have aE:=κ (ak.o.below' a);have aF:=θ al.o a;have aG:=η am.o a;have aH:Hid (Smb o o.heap.size h syE):=κ (Rd.below' an.o a a.size);have V:=κ (s.o.below' a);have X:=κ (t.o.below' a);clear j b UB a U H I J K L O P l m aC ak al am an s t;obtain⟨H,I,J,K,L,O,P⟩:=c7_of aE.o;have l:=ld21 (h21_blk V.o);have m:=ld21 (h21_blk X.o);have b:=β o (.cells (hrow [kE,pE]).toArray 81);have j:=hque_any 2 [kE,pE] [] 1 0 1 1 v x h (some (α o.heap.size 0)) none 1 1 1 y z E 2 0 ndE acE syE (o.alloc (.cells (hrow [kE,pE]).toArray 81)) rfl rfl rfl (θ aF.o b) (η aG.o b) (κ (Rd.below' aH.o b b.size)) (κ wnE) (by decide) (by decide) (by decide) (κ cfE) (κ vE) (κ (rd_new o 81 (hrow [kE,pE]))) (κ (two (by decide) (by decide))) (κ (two (wf_k) (wf_p))) (by decide) (κ (.inl rfl)) (by decide);rw[show bgnP ((1:Nat):Int) 0 1 1 ndE acE syE=P0 from rfl,t5]at j
 go_wp2_with (first|(refine wpList_lg _ _ rfl rfl rfl l ?_)|(refine wpList_lg _ _ rfl rfl rfl m ?_))
 refine j.mono ?_;rintro e aJ ⟨rfl,Y⟩;have a:=bst b Y;have aI:=κ (bst aD.o a);clear j b a Y H I J K L O P l m aD aE aF aG aH V X
 go_wp2_with fail
 go_ret;exact⟨rfl,aI.o⟩
end Htd
end Go.Proofs.YtcccdikhfgpamaaGreat
