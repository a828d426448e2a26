/- Texts side by side. -/
import Derived.Test.YtcccdikhfgpamaaGreatUhbu
import Derived.Test.YtcccdikhfgpamaaGreatUhbx
set_option linter.unusedVariables false
set_option linter.unusedSimpArgs false
set_option maxRecDepth 100000
set_option maxHeartbeats 16000000
namespace Go.Proofs.YtcccdikhfgpamaaGreat
open Kap Go.ChangeShapes Go.WideShapes Go.RowKit Mem Wpl Hpa
namespace Hck
open Abv Go.ChangeAt Go.Lib Tre Ref3 Law3 Fix3 Cfg Crd CrdB CrdC St7 Bkp Bks Stk Apt Hpl Hws Hrr Hod Tl5 Rul2 Mdp Mde Lac
open Mds (Pm plO)
open Mdd (Opn doF)
open Mdq (Vp Vp_do gX_mem)
open Mdg (bgnP)
open Rmg (rmbegin_any)
open Rmd (rmdo_any)
open Rmp (Rm Cq Rm_below)
variable {q:Mq} {base m:Nat} {P:Pm} {w:World}
theorem rq_of{g:Nat}(h:Rm base w g q)(hv:Vp m (plO q)):Mdo.Vq m q∧Mdj.Vo q:=by
 have f:(plO q).ac.length=q.al:=h.l2.symm;refine⟨⟨by rw[h.l1];exact hv.n,by rw[h.l2];exact hv.a,by rw[h.l2];exact hv.a1,by rw[h.l3];exact hv.s,hv.ws,hv.wa,hv.sh,?_,hv.wi,fun i d=>?_,hv.cr⟩,fun i d e j=>?_⟩
 ·have c:=hv.nb;rw[show(plO q).bs.length=q.nb from by show(q.xs.map Bx.b).length=_;rw[List.length_map];exact h.l4.symm]at c;exact c
 ·have c:=(hv.bk _ (gX_mem d)).1;rw[f]at c;exact c
 ·have c:=(hv.bk _ (gX_mem d)).2 e j;rw[f]at c;exact c
theorem ordF_len(E:List He):(ordF E).length≤E.length:=by
 rw[show ordF E=ordN (fk E) E.length from rfl,(ordN_perm (fk E) E.length).length_eq];exact Nat.le_trans (List.length_filter_le _ _) (by simp)
structure WfO(x:He):Prop where
 p:inI x.m.p
 q:inI x.m.q
 t:inI x.m.t
 y:x.m.y≤9223372036854775807
 v:x.m.v≤9223372036854775807
 s:inI x.sx
 e:inI x.ex
def WfE(E:List He):Prop:= ∀i,i<E.length→WfO (gH E i)
def chkF(n:Int)(E:List He)(P:Pm):Int:=if rightF n E=true then chkL E (ordF E) P else-2
def MadeI(x:Int)(w:World)(e:Ending)(w':World):Prop:=e= .returned (.int .i64 x)∧Below w.heap.size w w'
theorem rchk_any(n:Int)(E:List He)(sN:Nat)(wi ra ta:Int)(A B C Al:Option Addr)(nl al sl c d f cL:Nat)(nd:List (Int×Int))(ac:List Int)(sy:List (Int×Int×Int×Nat))(w:World)(L1:Hid (nl=nd.length))(L2:Hid (al=ac.length))(L3:Hid (sl=sy.length))
  (hn:Hid (Nds w w.heap.size A nd))(ha:Hid (Ris w w.heap.size B ac))(hs:Hid (Smb w w.heap.size C sy))(hwn:Hid (WfN nd))(m1:nl≤1000)(m2:al≤1000)(m3:sl≤1000)(hsh:sN≤1000)(hcf:Hid (cfgF (sN:Int) wi ra ta nd ac sy=0))(V0:Hid (Vp 0 (bgnP (sN:Int) wi ra ta nd ac sy)))
  (hl:Hid (Rd w w.heap.size Al (hrow E)))(hE:Hid (WfE E))(hm:E.length≤800):
  Calls Tryz.prog 13 #[.agg (vC (sN:Int) wi ra ta A nl c B al d C sl f),.int .i64 n,.slice Al E.length cL] w (MadeI (chkF n E (bgnP (sN:Int) wi ra ta nd ac sy)) w):=by
 have U0:=κ (β w (.cells (vC (sN:Int) wi ra ta A nl c B al d C sl f) 31));have K0:=κ (Blk.fresh w 31 (vC (sN:Int) wi ra ta A nl c B al d C sl f))
 go_enter Tryz.func13,Tryz.ntmps13
 go_upto_region 1 with fail
 generalize w.alloc (.cells (vC (sN:Int) wi ra ta A nl c B al d C sl f) 31)=w0 at U0 K0 ⊢;generalize w.heap.size=gB at K0 ⊢;obtain⟨k0,k1,k2,k3,k4,k5,k6⟩:=c7_of K0.o;have CK:=rcheck5_any (sN:Int) wi ra ta A B C c d f nd ac sy w0 (θ hn.o U0.o) (η ha.o U0.o) (κ (Rd.below' hs.o U0.o U0.o.size)) hwn (by rw[←L1.o];omega) (by rw[←L2.o];omega) (by rw[←L3.o];omega);rw[←L1.o,←L2.o,←L3.o,hcf.o]at CK
 go_wp2_with fail
 refine CK.mono ?_;rintro e w1 ⟨rfl,ab⟩;have Y:=κ (bst U0.o ab);have K1:=κ (K0.o.below' ab);clear k0 k1 k2 k3 k4 k5 k6 K0 U0 ab CK
 go_wp2_with fail
 refine(rright_any n E Al cL w1 (κ (Rd.below' hl.o Y.o Y.o.size)) (by omega)).mono ?_;rintro e l ⟨rfl,I⟩;have J:=κ (bst Y.o I);have K2:=κ (K1.o.below' I);clear K1 Y I;by_cases hR:rightF n E=true
 ·have hF:Hid (chkF n E (bgnP (sN:Int) wi ra ta nd ac sy)=chkL E (ordF E) (bgnP (sN:Int) wi ra ta nd ac sy)):=κ (by unfold chkF;rw[if_pos hR]);rw[hR];clear hR
  go_upto_region 3 with fail
  obtain⟨k0,k1,k2,k3,k4,k5,k6⟩:=c7_of K2.o
  go_wp2_with fail
  refine(rmbegin_any sN wi ra ta A B C nl al sl c d f nd ac sy l L1 L2 L3 (θ hn.o J.o) (η ha.o J.o) (κ (Rd.below' hs.o J.o J.o.size)) m1 m2 hsh).mono ?_;rintro e w3 ⟨gr,q,rfl,af,ag,ah,ai,aC⟩;have T:=κ af;have P3:=κ ag;have Q3:=κ ah;have V:=κ (bst J.o ai);have aj:Hid (w.heap.size≤l.heap.size):=κ J.o.size;generalize l.heap.size=base at T aj;clear k0 k1 k2 k3 k4 k5 k6 K2 J ai aC af ag ah
  go_wp2_with fail
  refine(order_any E Al cL w3 (κ (Rd.below' hl.o V.o V.o.size)) (by omega)).mono ?_;rintro e w4 ⟨Ao,co,rfl,ak,ad,am⟩;have OP:Hid (Ris w4 w4.heap.size Ao (nI (ordF E))):=κ ak;have U4:=κ (bst V.o ad);have M4:=κ (Rm_below T.o ad);obtain⟨vm,vo⟩:=rq_of T.o (by rw[P3.o];exact V0.o);have aD:0<q.nb:=by have h1:=vm.nb;have h2:=vm.sh;omega
  clear vm vo
  have FR:Hid (Far gr q.Ab Ao (ints (nI (ordF E)))):=κ (.inr fun a ha=>by
   have h1:=am a ha
   have h2:=T.o.blk.lt
   refine⟨by omega,fun b hb=>?_⟩
   have h3:=(World.ownsRow.lt T.o.row b.block (by rw[hb];rfl)).2
   omega)
  clear aD am ad ak T V;have an:Hid ((ordF E).length≤800):=κ (by have h:=ordF_len E;omega);have ao:Hid (∀a∈ordF E,a<E.length):=κ (fun a ha=>ordN_lt ha);have Z:Hid (chkF n E (bgnP (sN:Int) wi ra ta nd ac sy)=chkL E ((ordF E).drop 0) (plO q)):=κ (by rw[hF.o,P3.o];rfl);rw[←P3.o]at V0;clear hF P3 hcf;obtain⟨j,O⟩: ∃r,r=chkF n E (bgnP (sN:Int) wi ra ta nd ac sy):=⟨_,rfl⟩;rw[←O]at Z;have RE:=κ O;clear O;generalize ordF E=L at OP FR an ao Z ⊢;have QA:Hid (q.Ab=q.Ab):=κ rfl;generalize ap:q.Ab=Ab at FR QA;have aq:Hid (q.Ab=Ab):=κ ap;clear ap QA
  go_wp2_with fail
  go_loopg [9] L.length (fun g9 s9 w'=> ∃(i:Nat) (F:Mq),i+g9=L.length∧s9= ι i∧Hid (j=chkL E (L.drop i) (plO F))∧Hid (Vp i (plO F))∧Hid (Rm base w' gr F)∧Hid (Cq F)∧Hid (F.Ab=Ab)∧Hid (Ris w' w'.heap.size Ao (nI L))∧Hid (Below w.heap.size w w'))
  case atStart=>exact⟨0,q,by omega,rfl,Z,V0,M4,Q3,aq,OP,U4⟩
  case round=>
   clear Z V0 M4 Q3 aq OP U4;obtain⟨i,F,hi,rfl,HC,VP,MK,CQ,QA,OP,U⟩:=hrel
   rename World=>wr
   by_cases hlt:i<L.length
   ·obtain⟨g,rfl⟩: ∃g,gk=g+1:=⟨gk-1,by omega⟩;obtain⟨x,hx⟩: ∃x,x=L[i]:=⟨_,rfl⟩;have ae:x<E.length:=by rw[hx];exact ao.o _ (List.getElem_mem hlt)
    have HD:Hid (L.drop i=x :: L.drop (i+1)):=κ (by rw[hx];exact List.drop_eq_getElem_cons hlt);obtain⟨b,o,rfl,hb,hc⟩:=Ris.at (i:=i) OP.o (by simpa[nI] using hlt);have ci:=hc i (by simpa[nI] using hlt);have hg:gI (nI L) i=(x:Int):=by rw[hx];simp[gI,nI,hlt]
    rw[hg]at ci;have HG:=κ hg;have ar:Hid (i<(nI L).length):=κ (by simpa[nI] using hlt);clear hc hb hg hx;obtain⟨b2,o2,rfl,I,au⟩:=hes_at (Rd.below' hl.o U.o U.o.size) (by omega);have f:=au x ae;clear au I;have HX:=κ ae;have ld:=ldr21 f;have av:decide ((i:Int)<(L.length:Int))=true:=by simp;omega
    go_upto_region 9 with(first|(refine wpList_ld _ _ rfl rfl rfl ld ?_)|(refine wpList_st _ _ _ rfl rfl rfl rfl (str21 _ _) ?_))
    clear ld f av;have K:=κ (Blk.fresh wr 68 (hA (gH E x)));have G:=β wr (.cells (hA (gH E x)) 68);have Y:=κ (bst U.o G);have O1:Hid (Ris (wr.alloc (.cells (hA (gH E x)) 68)) (wr.alloc (.cells (hA (gH E x)) 68)).heap.size (some ⟨b,o,none⟩) (nI L)):=κ (Rd.below' OP.o G G.size);have M1:=κ (Rm_below MK.o G);have SV:=κ (rq_of MK.o VP.o);have Q:=κ (hE.o x HX.o);have HS:Hid (j=if (gH E x).e≠0∧ ¬((doF (plO F) (opH (gH E x))).2.1=(gH E x).c∧(doF (plO F) (opH (gH E x))).2.2.1=(gH E x).d) then (x:Int) else chkL E (L.drop (i+1)) (doF (plO F) (opH (gH E x))).1):=κ (by rw[HC.o,HD.o];rfl);have aa:=κ (Vp_do VP.o (opH (gH E x)) Q.o.t Q.o.p Q.o.q);have aw:=VP.o.ep;have aF:i≤800:=by have:=an.o;omega
    clear G OP U MK HC HD VP HX ae ci;generalize gH E x=X at K Y O1 M1 Q HS aa ⊢;generalize wr.alloc (.cells (hA X) 68)=w1 at K Y O1 M1 ⊢;generalize wr.heap.size=ge at K ⊢;have S:=rmdo_any base gr i F X.m.k X.m.a X.m.s X.m.p X.m.q X.m.n X.m.t X.m.i X.m.y X.m.z X.m.v X.sx X.ex X.m.x X.sw w1 M1 (κ SV.o.1) (by omega) (κ SV.o.2) ⟨aw.1,by have:=aw.2;show(plO F).ep≤_;omega⟩ Q.o.p Q.o.q Q.o.y Q.o.v Q.o.s Q.o.e.1 Q.o.e.2 CQ (fun w0=>Wry.rright_any ⟨X.m.k,X.m.a,X.m.s,X.m.x,X.m.p,X.m.q,X.m.n,X.m.t,X.m.i,X.m.y,X.m.z,X.m.v⟩ w0);have hX:(⟨⟨X.m.k,X.m.a,X.m.s,X.m.x,X.m.p,X.m.q,X.m.n,X.m.t,X.m.i,X.m.y,X.m.z,X.m.v⟩,X.sw,X.sx,X.ex⟩:Opn)=opH X:=rfl;rw[hX]at S;generalize doF (plO F) (opH X)=R at S HS aa;obtain⟨P1,H,W,aG⟩:=R;simp only at S HS aa;have lo:=ldOpR (h21_blk K.o)
    go_wp2_with (refine wpList_ld _ _ rfl rfl rfl lo ?_)
    refine S.mono ?_;rintro e l ⟨q1,A2,n2,c2,rfl,_,_,_,hM,hP,hA,hK,_,ax⟩;have O2:Hid (Ris l l.heap.size (some (α b o)) (nI L)):=κ (rd_kp O1.o hK (by rw[QA.o];exact FR.o));have K2:=κ (blk_dor K.o M1.o (by decide) (by decide) hK);have J:=κ (below_kpr Y.o M1.o hK aj.o);have M2:=κ hM;have P2:=κ hP;have C2:=κ ax;have ay:Hid (q1.Ab=Ab):=κ (hA.trans QA.o);clear lo S hX hM hP hA hK ax O1 K Y M1 QA SV CQ;have G:=β l (.cells (vI H W) 64);have B3:=κ (Blk.fresh l 64 (vI H W));have O3:Hid (Ris (l.alloc (.cells (vI H W) 64)) (l.alloc (.cells (vI H W) 64)).heap.size (some (α b o)) (nI L)):=κ (Rd.below' O2.o G G.size);have K3:=κ (K2.o.below' G);have V:=κ (bst J.o G);have T:=κ (Rm_below M2.o G);clear G O2 K2 J M2
    go_upto_region 10 with fail
    generalize l.alloc (.cells (vI H W) 64)=w3 at B3 O3 K3 V T ⊢;generalize l.heap.size=ga at B3 ⊢;have c3:w3.cell? (α ge 3)=some (ι X.e):=K3.o.cell 3;have aH:w3.cell? (α ge 19)=some (ι X.c):=K3.o.cell 19;have aI:w3.cell? (α ge 20)=some (ι X.d):=K3.o.cell 20;obtain⟨a0,a1,_,_⟩:=Mds.q2b B3.o;obtain⟨b',o',aE,_,az⟩:=Ris.at (i:=i) O3.o ar.o;cases aE;have ci:=az i ar.o;rw[HG.o]at ci;clear az;have aA:Hid (Vp (i+1) (plO q1)):=κ (by rw[P2.o];exact aa.o);by_cases he:X.e=0
    ·have e0:(X.e != 0)=false:=by simp[he]
     have HN:Hid (j=chkL E (L.drop (i+1)) (plO q1)):=κ (by rw[HS.o,P2.o,if_neg (by exact fun h=>h.1 he)])
     go_wp2_with fail
     go_roundg g
     case measure=>omega
     case rel=>exact⟨i+1,q1,by omega,by go_num,HN,aA,T,C2,ay,O3,V⟩
    ·have e0:(X.e != 0)=true:=by simp[he]
     by_cases hcc:H=X.c
     ·by_cases hdd:W=X.d
      ·have e1:(H != X.c)=false:=by simp[hcc]
       have f1:(H==X.c)=true:=by simp[hcc]
       have e2:(W != X.d)=false:=by simp[hdd]
       have f2:(W==X.d)=true:=by simp[hdd]
       have HN:Hid (j=chkL E (L.drop (i+1)) (plO q1)):=κ (by rw[HS.o,P2.o,if_neg (by exact fun h=>h.2 ⟨hcc,hdd⟩)])
       go_wp2_with fail
       go_roundg g
       case measure=>omega
       case rel=>exact⟨i+1,q1,by omega,by go_num,HN,aA,T,C2,ay,O3,V⟩
      ·have e1:(H != X.c)=false:=by simp[hcc]
       have f1:(H==X.c)=true:=by simp[hcc]
       have e2:(W != X.d)=true:=by simp[hdd]
       have f2:(W==X.d)=false:=by simp[hdd]
       have HN:Hid (j=(x:Int)):=κ (by rw[HS.o,if_pos ⟨he,fun h=>hdd h.2⟩])
       go_wp2_with fail
       go_ret;exact⟨by rw[←RE.o,HN.o];rfl,V.o⟩
     ·have e1:(H != X.c)=true:=by simp[hcc]
      have f1:(H==X.c)=false:=by simp[hcc]
      have HN:Hid (j=(x:Int)):=κ (by rw[HS.o,if_pos ⟨he,fun h=>hcc h.1⟩])
      go_wp2_with fail
      go_ret;exact⟨by rw[←RE.o,HN.o];rfl,V.o⟩
   ·have hL:Hid (j= -1):=κ (by rw[HC.o,List.drop_eq_nil_of_le (by omega)];rfl);have av:decide ((i:Int)<(L.length:Int))=false:=by simp;omega
    go_wp2_with fail
    go_ret;exact⟨by rw[←RE.o,hL.o];rfl,U.o⟩
 ·have hF:Hid (chkF n E (bgnP (sN:Int) wi ra ta nd ac sy)= -2):=κ (by unfold chkF;rw[if_neg hR]);have aB:=Bool.eq_false_iff.2 hR;rw[aB];clear hR aB
  go_wp2_with fail
  go_ret;exact⟨by rw[hF.o];rfl,J.o⟩
end Hck
namespace Heo
open Opn Opc Wmr Hri Go.Joins Go.Deep
open Hck (WfO WfE)
def Fes(w:World)(A:Option Addr)(n:Nat):Prop:= ∀i,i<n→ ∃b o x,A=some ⟨b,o,none⟩∧b<w.heap.size∧(WfO x∧inI x.k)∧ ∀j v,(hv x)[j]? =some v→w.cell? ⟨b,o+i*21+j,none⟩=some v
theorem open_ents{H:Type}{enc:TypeId×Value→H}{w:World}{v:Value}{fuel:Nat}{x:DataW H×List MemPlace}{base:Nat}{held:Bool}
  (hf:DataW.trod enc Tryz.prog w base (fun _=>true) held fuel 27 [v]=some x):
  ∃A n c,v= .slice A n c∧n≤c∧c≤maxLen∧Fes w A n:=by
 have cR:Tryz.prog.cellsOf 68=21:=by kernel_rfl
 have cP:Tryz.prog.cellsOf 59=15:=by kernel_rfl
 have cA:Tryz.prog.cellsOf 64=2:=by kernel_rfl
 have cM:Tryz.prog.cellsOf 57=12:=by kernel_rfl
 have cO:Tryz.prog.cellsOf 55=7:=by kernel_rfl
 have F:Tryz.prog.cellsOf 3=1:=by kernel_rfl
 have G:Tryz.prog.cellsOf 2=1:=by kernel_rfl
 have J:Tryz.prog.cellsOf 4=1:=by kernel_rfl
 rcases Go.Deep.open_slice Tryz.underlying27 hf with⟨g,_⟩|⟨a,len,K,m,n,D,Pl,g,hb,hl,hm,L,_,hx⟩
 ·injection g with g
  exact⟨none,0,0,g,by simp,by unfold maxLen;omega,fun i hi=>by omega⟩
 ·injection g with g
  subst g;have O:m=K:=by rw[L];simp
  subst O;refine⟨some a,len,m,rfl,hl,hm,fun i hi=>?_⟩;obtain⟨ab,ao,P⟩:=a;obtain⟨C,E,h2⟩:=hx i (by omega);rw[cR]at E;obtain⟨_,e,b⟩:=World.cells?_some E
  have hs:P=none:=by
   obtain⟨C,E,_⟩:=hx 0 (by omega);rw[cR]at E;obtain⟨_,e,b⟩:=World.cells?_some E;have Q:=b 0 (by omega);rw[Go.Deep.add_add,List.getElem?_eq_getElem (by omega)]at Q;exact spot_none (by simpa using Q)
  subst hs;obtain⟨ys,k0,aa,ac,_,R,l⟩:=DataW.trod_struct Tryz.underlying68 h2
  match ys,R,C,e with
  |[r0,r1,r2,r3,r4,r5],_,[Q,e1,e2,e3,e4,e5,e6,e7,e8,e9,e10,e11,e12,e13,e14,e15,e16,e17,e18,e19,e20],_=>
   have p0:=l 0 _ rfl;have p1:=l 1 _ rfl;have p2:=l 2 _ rfl;have p3:=l 3 _ rfl;have p4:=l 4 _ rfl;have p5:=l 5 _ rfl;simp[cP,cA,F,G,J]at p0 p1 p2 p3 p4 p5;obtain⟨S,rfl,_⟩:=one_int Tryz.underlying3 p0;obtain⟨T,rfl,_⟩:=one_int Tryz.underlying3 p1;obtain⟨U,rfl,wk⟩:=one_int Tryz.underlying3 p2;obtain⟨en,rfl,_⟩:=one_int Tryz.underlying3 p3;obtain⟨xa,_,_,_,_,V,ga⟩:=DataW.trod_struct Tryz.underlying64 p5;obtain⟨xo,_,_,_,_,W,I⟩:=DataW.trod_struct Tryz.underlying59 p4
   match xa,V,xo,W with
   |[a0,a1],_,[o0,o1,o2,o3],_=>
    have t0:=ga 0 _ rfl;have t1:=ga 1 _ rfl;have s0:=I 0 _ rfl;have s1:=I 1 _ rfl;have s2:=I 2 _ rfl;have s3:=I 3 _ rfl;simp[cM,F,G,J]at t0 t1 s0 s1 s2 s3;obtain⟨cd,rfl,_⟩:=one_int Tryz.underlying3 t0;obtain⟨id,rfl,_⟩:=one_int Tryz.underlying3 t1;obtain⟨sw,rfl⟩:=one_bool Tryz.underlying4 s1;obtain⟨sx,rfl,ws⟩:=one_int Tryz.underlying3 s2;obtain⟨ex,rfl,we⟩:=one_int Tryz.underlying2 s3;obtain⟨xs,_,_,_,_,X,r⟩:=DataW.trod_struct Tryz.underlying57 s0
    match xs,X with
    |[y0,y1,y2,y3,y4,y5],_=>
     have g0:=r 0 _ rfl;have g1:=r 1 _ rfl;have g2:=r 2 _ rfl;have g3:=r 3 _ rfl;have g4:=r 4 _ rfl;have g5:=r 5 _ rfl;simp[F,cO,G]at g0 g1 g2 g3 g4 g5;obtain⟨Y,_,_,_,_,k,d⟩:=DataW.trod_struct Tryz.underlying55 g1
     match Y,k with
     |[u0,u1,u2,u3,u4,u5,u6],_=>
      have q0:=d 0 _ rfl;have q1:=d 1 _ rfl;have q2:=d 2 _ rfl;have q3:=d 3 _ rfl;have q4:=d 4 _ rfl;have q5:=d 5 _ rfl;have q6:=d 6 _ rfl;simp[F,G,J]at q0 q1 q2 q3 q4 q5 q6;obtain⟨kk,rfl,_⟩:=one_int Tryz.underlying3 g0;obtain⟨a,rfl,_⟩:=one_int Tryz.underlying3 q0;obtain⟨s,rfl,_⟩:=one_int Tryz.underlying3 q1;obtain⟨xx,rfl⟩:=one_bool Tryz.underlying4 q2;obtain⟨p,rfl,wp⟩:=one_int Tryz.underlying2 q3;obtain⟨q,rfl,wq⟩:=one_int Tryz.underlying2 q4;obtain⟨nn,rfl,_⟩:=one_int Tryz.underlying2 q5;obtain⟨t,rfl,wt⟩:=one_int Tryz.underlying2 q6;obtain⟨ii,rfl,_⟩:=one_int Tryz.underlying3 g2;obtain⟨y,rfl,wy⟩:=one_int Tryz.underlying2 g3;obtain⟨z,rfl,_⟩:=one_int Tryz.underlying3 g4;obtain⟨o,rfl,wo⟩:=one_int Tryz.underlying2 g5
      have hq: ∀j v,(hv ⟨S,T,U,en,⟨kk,a,s,xx,p,q,nn,t,ii,y,z,o⟩,sw,sx,ex,cd,id⟩)[j]? =some v→w.cell? (α ab (ao+i*21+j))=some v:=fun j v hj=>by
       have Z:j<21:=(List.getElem?_eq_some_iff.1 hj).1;have f:=b j Z;rw[Go.Deep.add_add,add_lit']at f;rw[Nat.add_assoc];exact f.trans hj
      exact⟨ab,ao,_,rfl,by have h:=hq 0 _ rfl;exact blk_lt h,⟨⟨wp,wq,wt,wy.2,wo.2,ws,we⟩,wk⟩,hq⟩
theorem pick{p:Nat→He→Prop}: ∀m,(∀i,i<m→ ∃x,p i x)→ ∃E:List He,E.length=m∧ ∀i,i<m→p i (gH E i)
 |0,_=>⟨[],rfl,fun i hi=>by omega⟩
 |m+1,h=>by
  obtain⟨E,hE,hp⟩:=pick m fun i hi=>h i (by omega)
  obtain⟨x,a⟩:=h m (by omega)
  refine⟨E++[x],by simp[hE],fun i hi=>?_⟩
  by_cases e:i=m
  ·subst e;rw[show gH (E++[x]) i=x from by unfold gH;rw[List.getD,List.getElem?_append_right (by omega),hE];simp];exact a
  ·rw[show gH (E++[x]) i=gH E i from by unfold gH;rw[List.getD,List.getElem?_append_left (by omega)];rfl];exact hp i (by omega)
theorem rows_of{w:World}{A:Option Addr}{n:Nat}(h:Fes w A n)(m:Nat)(hm:m≤n): ∃E,E.length=m∧Rd w w.heap.size A (hrow E)∧WfE E∧WfH E:=by
 by_cases h0:m=0
 ·subst h0;exact⟨[],rfl,.inl rfl,fun i a=>absurd a (by simp),fun i a=>absurd a (by simp)⟩
 ·obtain⟨b,o,_,hA,r,_⟩:=h 0 (by omega)
  obtain⟨E,s,d⟩:=pick (p:=fun i x=>(WfO x∧inI x.k)∧ ∀j v,(hv x)[j]? =some v→w.cell? ⟨b,o+i*21+j,none⟩=some v) m fun i a=>by
   obtain⟨z,C,x,c,_,t,y⟩:=h i (by omega);rw[hA]at c;cases c;exact⟨x,t,y⟩
  refine⟨E,s,.inr ⟨b,o,hA,r,fun k v g=>?_⟩,fun i a=>(d i (by omega)).1.1,fun i a=>(d i (by omega)).1.2⟩;have f:=(List.getElem?_eq_some_iff.1 g).1;rw[hrow_len]at f;have e:k / 21*21+k%21=k:=by omega
  have l:=hrow_get E (k / 21) (k%21) (by omega) (by omega);rw[e,g]at l;have q:=(d (k / 21) (by omega)).2 _ _ l.symm;rw[Nat.add_assoc,e]at q;exact q
end Heo
namespace Hbg
open Abv Go.ChangeAt Go.Lib Tre Ref3 Law3 Fix3 Cfg Crd CrdB CrdC St7 Bkp Bks Stk Apt Hpl Hws Hti Hri Tl5 Mdp Mde
open Mds (Pm plO)
open Mdg (bgnP mbegin_any)
def MadeBg(ok:Bool)(P:Pm)(w:World)(e:Ending)(w':World):Prop:=Below w.heap.size w w'∧(ok=false→e= .returned (.tuple #[.pointer none,.bool false]))∧(ok=true→ ∃gm qm base,e= .returned (.tuple #[.pointer (some ⟨gm,0,none⟩),.bool true])∧Mm base w' gm qm∧plO qm=P∧w.heap.size≤base)
theorem hbegin_any(n:Int)(E:List He)(sN:Nat)(wi ra ta:Int)(A B C Al:Option Addr)(nl al sl c d f cL:Nat)(nd:List (Int×Int))(ac:List Int)(sy:List (Int×Int×Int×Nat))(w:World)(L1:Hid (nl=nd.length))(L2:Hid (al=ac.length))(L3:Hid (sl=sy.length))
  (hn:Hid (Nds w w.heap.size A nd))(ha:Hid (Ris w w.heap.size B ac))(hs:Hid (Smb w w.heap.size C sy))(hwn:Hid (WfN nd))(m1:nl≤1000)(m2:al≤1000)(m3:sl≤1000)(hcf:Hid (cfgF (sN:Int) wi ra ta nd ac sy=0))
  (hl:Hid (Rd w w.heap.size Al (hrow E)))(hE:Hid (WfH E))(hm:E.length≤800):
  Calls Tryz.prog 26 #[.agg (vC (sN:Int) wi ra ta A nl c B al d C sl f),.int .i64 n,.slice Al E.length cL] w (MadeBg (rightF n E) (bgnP (sN:Int) wi ra ta nd ac sy) w):=by
 have i:=κ (β w (.cells (vC (sN:Int) wi ra ta A nl c B al d C sl f) 43));have m:=κ (Blk.fresh w 43 (vC (sN:Int) wi ra ta A nl c B al d C sl f))
 go_enter Tryz.func26,Tryz.ntmps26
 go_upto_region 1 with fail
 generalize w.alloc (.cells (vC (sN:Int) wi ra ta A nl c B al d C sl f) 43)=z at i m ⊢;generalize w.heap.size=gB at m ⊢
 go_wp2_with fail
 refine(right_any n E Al cL z (κ (Rd.below' hl.o i.o i.o.size)) hE (by omega)).mono ?_;rintro e o ⟨rfl,b⟩;have a:=κ (bst i.o b);have q:=κ (m.o.below' b);clear m i b;by_cases hR:rightF n E=true
 ·have p:=κ hR;rw[hR];clear hR;obtain⟨F,G,H,I,J,K,L⟩:=c7_of q.o
  go_wp2_with fail
  refine(mbegin_any (sN:Int) wi ra ta A B C nl al sl c d f nd ac sy o L1 L2 L3 (θ hn.o a.o) (η ha.o a.o) (κ (Rd.below' hs.o a.o a.o.size)) hwn (by omega) (by omega) (by omega)).mono ?_;rintro e R ⟨j,_,k⟩;obtain⟨r,O,rfl,s,t⟩:=k hcf.o;have x:=κ s;have P:=κ t;have Q:=κ (bst a.o j);have y:Hid (w.heap.size≤o.heap.size):=κ a.o.size;generalize o.heap.size=l at x y;clear F G H I J K L q a j k s t
  go_wp2_with fail
  refine bodyPost_ret (v:= .tuple #[.pointer (some (α r 0)),.bool true]) (by simp[results,Tryz.results26,go_sem]) rfl ?_;exact⟨Q.o,fun h=>absurd h (by rw[p.o];decide),fun _=>⟨r,O,l,rfl,x.o,P.o,y.o⟩⟩
 ·have g:=Bool.eq_false_iff.2 hR;rw[g];clear hR;have p:=κ g;clear g
  go_wp2_with fail
  refine bodyPost_ret (v:= .tuple #[.pointer none,.bool false]) (by simp[results,Tryz.results26,go_sem]) rfl ?_;exact⟨a.o,fun _=>rfl,fun h=>absurd h (by rw[p.o];decide)⟩
end Hbg
namespace Hcc
open Abv Go.ChangeAt Go.Lib Tre Ref3 Law3 Fix3 Cfg Crd CrdB CrdC St7 Bkp Bks Stk Apt Hpl Hws Hrr Hod Hti Hri Hbg Tl5 Mdp Mde Mdd
open Hck (WfO WfE chkF MadeI ordF_len)
open Mds (Pm plO)
open Mdq (Vp Vp_do gX_mem)
open Mdg (bgnP)
theorem hchk_any(n:Int)(E:List He)(sN:Nat)(wi ra ta:Int)(A B C Al:Option Addr)(nl al sl c d f cL:Nat)(nd:List (Int×Int))(ac:List Int)(sy:List (Int×Int×Int×Nat))(w:World)(L1:Hid (nl=nd.length))(L2:Hid (al=ac.length))(L3:Hid (sl=sy.length))
  (hn:Hid (Nds w w.heap.size A nd))(ha:Hid (Ris w w.heap.size B ac))(hs:Hid (Smb w w.heap.size C sy))(hwn:Hid (WfN nd))(m1:nl≤1000)(m2:al≤1000)(m3:sl≤1000)(hcf:Hid (cfgF (sN:Int) wi ra ta nd ac sy=0))(V0:Hid (Vp 0 (bgnP (sN:Int) wi ra ta nd ac sy)))
  (hl:Hid (Rd w w.heap.size Al (hrow E)))(hH:Hid (WfH E))(hE:Hid (WfE E))(hm:E.length≤800):
  Calls Tryz.prog 11 #[.agg (vC (sN:Int) wi ra ta A nl c B al d C sl f),.int .i64 n,.slice Al E.length cL] w (MadeI (chkF n E (bgnP (sN:Int) wi ra ta nd ac sy)) w):=by
 have Q:=κ (β w (.cells (vC (sN:Int) wi ra ta A nl c B al d C sl f) 43));have K0:=κ (Blk.fresh w 43 (vC (sN:Int) wi ra ta A nl c B al d C sl f))
 go_enter Tryz.func11,Tryz.ntmps11
 go_upto_region 1 with fail
 generalize w.alloc (.cells (vC (sN:Int) wi ra ta A nl c B al d C sl f) 43)=w0 at Q K0 ⊢;generalize w.heap.size=gB at K0 ⊢;obtain⟨k0,k1,k2,k3,k4,k5,k6⟩:=c7_of K0.o
 go_wp2_with fail
 refine(hbegin_any n E sN wi ra ta A B C Al nl al sl c d f cL nd ac sy w0 L1 L2 L3 (θ hn.o Q.o) (η ha.o Q.o) (κ (Rd.below' hs.o Q.o Q.o.size)) hwn m1 m2 m3 hcf (κ (Rd.below' hl.o Q.o Q.o.size)) hH hm).mono ?_;rintro e w1 ⟨ae,aa,G⟩;have S:=κ (bst Q.o ae);have af:w.heap.size≤w0.heap.size:=Q.o.size;clear k0 k1 k2 k3 k4 k5 k6 K0 Q;by_cases hR:rightF n E=true
 ·have hF:Hid (chkF n E (bgnP (sN:Int) wi ra ta nd ac sy)=chkL E (ordF E) (bgnP (sN:Int) wi ra ta nd ac sy)):=κ (by unfold chkF;rw[if_pos hR]);obtain⟨gr,q,H,rfl,hM,hP,hB⟩:=G hR;have HR:=κ hR;have V:=κ hM;have P3:=κ hP;have av:Hid (w.heap.size≤H):=κ (by omega);clear hR aa G ae hM hP hB af
  go_wp2_with fail
  refine(Hmk.marked_any E Al cL w1 (κ (Rd.below' hl.o S.o S.o.size)) HR.o (by omega)).mono ?_;rintro e w4 ⟨Ao,co,rfl,ag,ab,ah⟩;have OP:Hid (Ris w4 w4.heap.size Ao (nI (ordF E))):=κ ag;have U4:=κ (bst S.o ab);have M4:=κ (Mm_below V.o ab);obtain⟨vm,vo⟩:=Mdq.Vq_of V.o (by rw[P3.o];exact V0.o);have aw:0<q.nb:=by have h1:=vm.nb;have h2:=vm.sh;omega
  clear vm vo
  have FR:Hid (Far gr q.Ab Ao (ints (nI (ordF E)))):=κ (.inr fun a ha=>by
   have h1:=ah a ha
   have h2:=V.o.blk.lt
   refine⟨by omega,fun b hb=>?_⟩
   have h3:=(World.ownsRow.lt V.o.row b.block (by rw[hb];rfl)).2
   omega)
  clear aw ah ab ag V S;have ai:Hid ((ordF E).length≤800):=κ (by have h:=ordF_len E;omega);have aj:Hid (∀a∈ordF E,a<E.length):=κ (fun a ha=>ordN_lt ha);have W:Hid (chkF n E (bgnP (sN:Int) wi ra ta nd ac sy)=chkL E ((ordF E).drop 0) (plO q)):=κ (by rw[hF.o,P3.o];rfl);rw[←P3.o]at V0;clear hF P3;obtain⟨j,I⟩: ∃r,r=chkF n E (bgnP (sN:Int) wi ra ta nd ac sy):=⟨_,rfl⟩;rw[←I]at W;have RE:=κ I;clear I;generalize ordF E=L at OP FR ai aj W ⊢;have QA:Hid (q.Ab=q.Ab):=κ rfl;generalize ak:q.Ab=Ab at FR QA;have am:Hid (q.Ab=Ab):=κ ak;clear ak QA
  go_wp2_with fail
  go_loopg [26] L.length (fun g9 s9 w'=> ∃(i:Nat) (J:Mq),i+g9=L.length∧s9= ι i∧Hid (j=chkL E (L.drop i) (plO J))∧Hid (Vp i (plO J))∧Hid (Mm H w' gr J)∧Hid (J.Ab=Ab)∧Hid (Ris w' w'.heap.size Ao (nI L))∧Hid (Below w.heap.size w w'))
  case atStart=>exact⟨0,q,by omega,rfl,W,V0,M4,am,OP,U4⟩
  case round=>
   clear W V0 M4 am OP U4;obtain⟨i,J,hi,rfl,HC,VP,MK,QA,OP,U⟩:=hrel
   rename World=>wr
   by_cases hlt:i<L.length
   ·obtain⟨g,rfl⟩: ∃g,gk=g+1:=⟨gk-1,by omega⟩;obtain⟨x,hx⟩: ∃x,x=L[i]:=⟨_,rfl⟩;have ad:x<E.length:=by rw[hx];exact aj.o _ (List.getElem_mem hlt)
    have HD:Hid (L.drop i=x :: L.drop (i+1)):=κ (by rw[hx];exact List.drop_eq_getElem_cons hlt);obtain⟨b,o,rfl,hb,hc⟩:=Ris.at (i:=i) OP.o (by simpa[nI] using hlt);have ci:=hc i (by simpa[nI] using hlt);have hg:gI (nI L) i=(x:Int):=by rw[hx];simp[gI,nI,hlt]
    rw[hg]at ci;have HG:=κ hg;have an:Hid (i<(nI L).length):=κ (by simpa[nI] using hlt);clear hc hb hg hx;obtain⟨b2,o2,rfl,ax,ao⟩:=hes_at (Rd.below' hl.o U.o U.o.size) (by omega);have f:=ao x ad;clear ao ax;have HX:=κ ad;have ld:=ld21 f;have Z:decide ((i:Int)<(L.length:Int))=true:=by simp;omega
    go_upto_region 8 with(first|(refine wpList_ld _ _ rfl rfl rfl ld ?_)|(refine wpList_st _ _ _ rfl rfl rfl rfl (st21 _ _) ?_))
    clear ld f Z;have K:=κ (Blk.fresh wr 81 (hA (gH E x)));have l:=β wr (.cells (hA (gH E x)) 81);have S:=κ (bst U.o l);have O1:Hid (Ris (wr.alloc (.cells (hA (gH E x)) 81)) (wr.alloc (.cells (hA (gH E x)) 81)).heap.size (some ⟨b,o,none⟩) (nI L)):=κ (Rd.below' OP.o l l.size);have M1:=κ (Mm_below MK.o l);have SV:=κ (Mdq.Vq_of MK.o VP.o);have O:=κ (hE.o x HX.o);have HS:Hid (j=if (gH E x).e≠0∧ ¬((doF (plO J) (opH (gH E x))).2.1=(gH E x).c∧(doF (plO J) (opH (gH E x))).2.2.1=(gH E x).d) then (x:Int) else chkL E (L.drop (i+1)) (doF (plO J) (opH (gH E x))).1):=κ (by rw[HC.o,HD.o];rfl);have Y:=κ (Vp_do VP.o (opH (gH E x)) O.o.t O.o.p O.o.q);have ap:=VP.o.ep;have az:i≤800:=by have:=ai.o;omega
    clear l OP U MK HC HD VP HX ad ci;generalize gH E x=X at K S O1 M1 O HS Y ⊢;generalize wr.alloc (.cells (hA X) 81)=w1 at K S O1 M1 ⊢;generalize wr.heap.size=ge at K ⊢;have P:=do_any H gr i J X.m.k X.m.a X.m.s X.m.p X.m.q X.m.n X.m.t X.m.i X.m.y X.m.z X.m.v X.sx X.ex X.m.x X.sw w1 M1 (κ SV.o.1) (by omega) (κ SV.o.2) ⟨ap.1,by have:=ap.2;show(plO J).ep≤_;omega⟩ O.o.p O.o.q O.o.y O.o.v O.o.s O.o.e.1 O.o.e.2;have hX:(⟨⟨X.m.k,X.m.a,X.m.s,X.m.x,X.m.p,X.m.q,X.m.n,X.m.t,X.m.i,X.m.y,X.m.z,X.m.v⟩,X.sw,X.sx,X.ex⟩:Opn)=opH X:=rfl;rw[hX]at P;generalize doF (plO J) (opH X)=R at P HS Y;obtain⟨P1,F,T,aA⟩:=R;simp only at P HS Y;have lo:=ldOpM (h21_blk K.o)
    go_wp2_with (refine wpList_ld _ _ rfl rfl rfl lo ?_)
    refine P.mono ?_;rintro e w2 ⟨q1,A2,n2,c2,rfl,_,_,_,hM,hP,hA,hK,_⟩;have O2:Hid (Ris w2 w2.heap.size (some (α b o)) (nI L)):=κ (rd_kp O1.o hK (by rw[QA.o];exact FR.o));have K2:=κ (blk_do K.o M1.o (by decide) (by decide) hK);have U2:=κ (below_kp S.o M1.o hK av.o);have M2:=κ hM;have P2:=κ hP;have aq:Hid (q1.Ab=Ab):=κ (hA.trans QA.o);clear lo P hX hM hP hA hK O1 K S M1 QA SV;have l:=β w2 (.cells (vI F T) 74);have B3:=κ (Blk.fresh w2 74 (vI F T));have O3:Hid (Ris (w2.alloc (.cells (vI F T) 74)) (w2.alloc (.cells (vI F T) 74)).heap.size (some (α b o)) (nI L)):=κ (Rd.below' O2.o l l.size);have K3:=κ (K2.o.below' l);have U3:=κ (bst U2.o l);have V:=κ (Mm_below M2.o l);clear l O2 K2 U2 M2
    go_upto_region 9 with fail
    generalize w2.alloc (.cells (vI F T) 74)=w3 at B3 O3 K3 U3 V ⊢;generalize w2.heap.size=ga at B3 ⊢;have c3:w3.cell? (α ge 3)=some (ι X.e):=K3.o.cell 3;have aB:w3.cell? (α ge 19)=some (ι X.c):=K3.o.cell 19;have aC:w3.cell? (α ge 20)=some (ι X.d):=K3.o.cell 20;obtain⟨a0,a1,_,_⟩:=Mds.q2b B3.o;obtain⟨b',o',ay,_,ar⟩:=Ris.at (i:=i) O3.o an.o;cases ay;have ci:=ar i an.o;rw[HG.o]at ci;clear ar;have au:Hid (Vp (i+1) (plO q1)):=κ (by rw[P2.o];exact Y.o);by_cases he:X.e=0
    ·have e0:(X.e != 0)=false:=by simp[he]
     have HN:Hid (j=chkL E (L.drop (i+1)) (plO q1)):=κ (by rw[HS.o,P2.o,if_neg (by exact fun h=>h.1 he)])
     go_wp2_with fail
     go_roundg g
     case measure=>omega
     case rel=>exact⟨i+1,q1,by omega,by go_num,HN,au,V,aq,O3,U3⟩
    ·have e0:(X.e != 0)=true:=by simp[he]
     by_cases hcc:F=X.c
     ·by_cases hdd:T=X.d
      ·have e1:(X.c != F)=false:=by simp[hcc]
       have f1:(X.c==F)=true:=by simp[hcc]
       have e2:(X.d != T)=false:=by simp[hdd]
       have f2:(X.d==T)=true:=by simp[hdd]
       have HN:Hid (j=chkL E (L.drop (i+1)) (plO q1)):=κ (by rw[HS.o,P2.o,if_neg (by exact fun h=>h.2 ⟨hcc,hdd⟩)])
       go_wp2_with fail
       go_roundg g
       case measure=>omega
       case rel=>exact⟨i+1,q1,by omega,by go_num,HN,au,V,aq,O3,U3⟩
      ·have e1:(X.c != F)=false:=by simp[hcc]
       have f1:(X.c==F)=true:=by simp[hcc]
       have e2:(X.d != T)=true:=by simpa using fun h=>hdd h.symm
       have f2:(X.d==T)=false:=by simpa using fun h=>hdd h.symm
       have HN:Hid (j=(x:Int)):=κ (by rw[HS.o,if_pos ⟨he,fun h=>hdd h.2⟩])
       go_wp2_with fail
       go_ret;exact⟨by rw[←RE.o,HN.o];rfl,U3.o⟩
     ·have e1:(X.c != F)=true:=by simpa using fun h=>hcc h.symm
      have f1:(X.c==F)=false:=by simpa using fun h=>hcc h.symm
      have HN:Hid (j=(x:Int)):=κ (by rw[HS.o,if_pos ⟨he,fun h=>hcc h.1⟩])
      go_wp2_with fail
      go_ret;exact⟨by rw[←RE.o,HN.o];rfl,U3.o⟩
   ·have hL:Hid (j= -1):=κ (by rw[HC.o,List.drop_eq_nil_of_le (by omega)];rfl);have Z:decide ((i:Int)<(L.length:Int))=false:=by simp;omega
    go_wp2_with fail
    go_ret;exact⟨by rw[←RE.o,hL.o];rfl,U.o⟩
 ·have hF:Hid (chkF n E (bgnP (sN:Int) wi ra ta nd ac sy)= -2):=κ (by unfold chkF;rw[if_neg hR]);have he:=aa (Bool.eq_false_iff.2 hR);subst he;clear hR aa G af
  go_wp2_with fail
  go_ret;exact⟨by rw[hF.o];rfl,S.o⟩
end Hcc
end Go.Proofs.YtcccdikhfgpamaaGreat
