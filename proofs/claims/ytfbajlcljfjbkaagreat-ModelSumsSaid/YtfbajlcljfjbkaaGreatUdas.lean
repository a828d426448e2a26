/- Texts side by side. -/
import Derived.Test.YtfbajlcljfjbkaaGreatUniat
set_option linter.unusedVariables false
set_option linter.unusedSimpArgs false
set_option maxRecDepth 100000
set_option maxHeartbeats 16000000
namespace Go.Proofs.YtfbajlcljfjbkaaGreat
open Kap Abv Go.ChangeShapes Go.WideShapes Go.ChangeAt Go.RowKit Mem Tre Ref3 Law3 Crd CrdB CrdC Rr4 Bkp Bks Bcl Dlk Stk Apt Bko
namespace Mdw
theorem ownBook_any(sh ca:Int)(A C:Option Addr)(nr no c d:Nat)(rl:List Rc)(bk:Bk)(w:World)(hsh:Hid (sh=bk.sh∧ca=bk.ca))(hnr:Hid (nr=bk.rows.length))(hno:Hid (no=bk.op.length))(hm:Hid (Bm w A C rl bk))(hf:Hid (FewB bk)):
  Calls Tryz.prog 53 #[.agg #[.int .i64 sh,.int .i64 ca,.slice A nr c,.slice C no d]] w (MadeBo bk w):=by
 have hl1:nr≤1000:=by rw[hnr.out];exact hf.out.rl
 have hl2:no≤1000:=by rw[hno.out];exact hf.out.ol
 have b0:=κ (γ w (.cells (vB sh ca A nr c C no d) 75) (.cells (vB 0 0 none 0 0 none 0 0) 75));have K0:=κ ((Blk.fresh w 75 (vB sh ca A nr c C no d)).alloc (.cells (vB 0 0 none 0 0 none 0 0) 75));have R0:=κ (δ (w.alloc (.cells (vB sh ca A nr c C no d) 75)) 75 (vB 0 0 none 0 0 none 0 0) (w.heap.size+1));have HRL:Hid (rl.length=nr):=by show _=_;rw[hnr.out];exact hm.out.len
 have HNL:Hid (∀i,i<nr→(gC rl i).r.ns.length≤1000):=fun i hi=>by
  rw[gC_row hm.out.e (by rw[HRL.out];exact hi)];exact hf.out.nl i (by rw[←hnr.out];exact hi)
 go_enter Tryz.func53,Tryz.ntmps53
 go_upto_region 1 with fail
 generalize ((w.alloc (.cells (vB sh ca A nr c C no d) 75)).alloc (.cells (vB 0 0 none 0 0 none 0 0) 75))=w0 at b0 K0 R0 ⊢;obtain⟨gB,hgB⟩:=ν w.heap.size;obtain⟨gR,hgR⟩:=ν (w.heap.size+1);have hBR:gB≠gR:=by omega
 have hgB1:Hid (w.heap.size≤gB):=by show _≤_;omega
 have hgR1:Hid (w.heap.size≤gR):=by show _≤_;omega
 have K1:=κ (ζ hgB K0.out);have R1:=κ (ζ hgR R0.out);simp only[←hgR];simp only[←hgB];clear hgB hgR K0 R0;have HB0:=κ b0.out.size;obtain⟨k0,k1,k2,k3⟩:=q4_of K1.out
 go_wp2_with fail
 refine(cloneE C no d bk.op _ hno (Rd.below' hm.out.o b0.out b0.out.size) (by omega)).mono ?_;rintro e w1 ⟨Ao,co,rfl,how1,hb1⟩;have HO1:=κ (own_mono how1 HB0.out);have HB1:=κ (below_step b0.out hb1);have K2:=κ (Blk.below' K1.out hb1);have R2:=κ (Blk.below' R1.out hb1);clear k0 k1 k2 k3 how1 hb1 K1 R1 b0 HB0;obtain⟨k0,k1,k2,k3,f0,f1,f2,f3⟩:=z4_of K2.out;have K3:=κ (ξ (blk_st K2.out 3 (.slice Ao no co)));have R3:Hid (Blk (w1.setCell (α gB 3) (.slice Ao no co)) gR 75 (vB 0 0 none 0 0 none 0 0)):=far_st R2.out (fun e=>hBR e.symm) _;have HO3:Hid ((w1.setCell (α gB 3) (.slice Ao no co)).ownsRow w.heap.size 157 11 (.slice Ao no co) no (ens bk.op)):=own_st HO1.out K2.out (by decide) 3 _;have HB3:Hid (Below w.heap.size w (w1.setCell (α gB 3) (.slice Ao no co))):=HB1.out.setCell (p:=(α gB 3)) hgB1.out _
 go_upto_region 2 with fail
 clear k0 k1 k2 k3 f0 f1 f2 f3 HO1 HB1 K2 R2;generalize w1.setCell (α gB 3) (.slice Ao no co)=w2 at K3 R3 HO3 HB3 ⊢;obtain⟨k0,k1,k2,k3,f0,f1,f2,f3⟩:=z4_of K3.out;have HB0:=κ HB3.out.size
 go_wp2_with fail
 refine(cloneR A nr c rl _ (by show _=_;rw[HRL.out]) (Rd.below' hm.out.r HB3.out HB3.out.size) (by omega)).mono ?_;rintro e w3 ⟨Ar,cr,rfl,how1,hb1⟩;have HR1:=κ (own_mono how1 HB0.out);have HO1:=own_below HO3.out hb1;have HB1:=κ (below_step HB3.out hb1);have K2:=κ (Blk.below' K3.out hb1);have R2:=κ (Blk.below' R3.out hb1);clear k0 k1 k2 k3 f0 f1 f2 f3 how1 hb1 K3 R3 HB3 HO3 HB0;obtain⟨k0,k1,k2,k3,f0,f1,f2,f3⟩:=z4_of K2.out
 have OI:Hid (Oi w w.heap.size (w3.setCell (α gB 2) (.slice Ar nr cr)) gB gR sh ca Ar Ao nr cr no co rl rl bk.rows bk.op 0):=
  ⟨blk_st K2.out 2 _,far_st R2.out (fun e=>hBR e.symm) _,own_st HR1.out K2.out (by decide) 2 _,own_st HO1.out K2.out (by decide) 2 _,HRL.out,hm.out.e,fun _ _=>rfl,fun k hk=>by omega,fun j k _ hk=>by omega,HB1.out.setCell (p:=⟨gB,2,none⟩) hgB1.out _⟩
 go_upto_region 3 with fail
 clear k0 k1 k2 k3 f0 f1 f2 f3 HR1 HO1 HB1 K2 R2;generalize w3.setCell (α gB 2) (.slice Ar nr cr)=w4 at OI ⊢;obtain⟨k0,k1,k2,k3⟩:=q4_of OI.out.kB
 go_wp2_with fail
 clear k0 k1 k2 k3
 go_loopg [16] nr (fun g s16 w'=> ∃(i:Nat) (rl':List Rc),i+g=nr∧s16= ι i∧Hid (Oi w w.heap.size w' gB gR sh ca Ar Ao nr cr no co rl rl' bk.rows bk.op i))
 case atStart=>exact⟨0,rl,by omega,rfl,OI⟩
 case round=>
  clear OI;obtain⟨i,rl',hi,rfl,OI⟩:=hrel;by_cases hlt:i<nr
  ·obtain⟨g,rfl⟩: ∃g,gk=g+1:=⟨gk-1,by omega⟩;have t0:decide ((i:Int)<(nr:Int))=true:=by simp;omega
   obtain⟨gr,hgr⟩:=own_at OI.out.r (by omega);subst hgr;have hil:i<rl'.length:=by rw[OI.out.len];exact hlt
   obtain⟨hbr,hbl,hnc,hcm,hroom,hcell⟩:=own_room OI.out.r;have c0:=hcell (i*3) _ (by have:=rcs_get rl' i 0 hil (by decide);exact this);have c1:=hcell (i*3+1) _ (by have:=rcs_get rl' i 1 hil (by decide);exact this);have c2:=hcell (i*3+2) _ (by have:=rcs_get rl' i 2 hil (by decide);exact this);rw[OI.out.old i τ]at c0 c1 c2;have HL:=κ (HNL.out i hlt);have HN:Hid (∀w',Below w.heap.size w w'→Ris w' w'.heap.size (gC rl i).A (gC rl i).r.ns):=fun w' hb=>Rd.below' (hm.out.n i (by rw[HRL.out];exact hlt)) hb hb.size
   obtain⟨R,hR⟩:=ν (gC rl i);rw[←hR]at c0 c1 c2 HL HN;have HR:=κ hR;clear hR hroom hcell;obtain⟨An,cn,ns,sec,cnt⟩:=R;simp only[]at HL HN;obtain⟨nn,hnn⟩:=ν ns.length;have HNN:=κ hnn;have c0':wr.cell? (α gr (i*3))=some (.slice An nn cn):=by rw[hnn];exact c0
   have c1':=χ c1;have c2':=χ c2;clear c0 c1 c2 hnn;have bA:=κ (β wr (.cells (vR An nn cn sec cnt) 154));have KA:=κ (Blk.fresh wr 154 (vR An nn cn sec cnt));have KB:=κ (Blk.below' OI.out.kB bA.out)
   go_upto_region 6 with fail
   clear c0' c1' c2';generalize wr.alloc (.cells (vR An nn cn sec cnt) 154)=w5 at bA KA KB ⊢;have hgrB:gr≠gB:=fun e=>blk_own_ne OI.out.kB OI.out.r (by decide) (by rw[e];rfl)
   have hgr4:gr≠wr.heap.size:=by omega
   have HG:=κ OI.out.b.size;generalize hg4:wr.heap.size=g4 at KA hgr4 ⊢;have Hg4:=κ hg4;clear hg4;have bD:=(below_step OI.out.b bA.out).drew;have bE:=κ bA.out.drew;obtain⟨k0,k1,k2,k3⟩:=q4_of KB.out;obtain⟨m0,m1,m2⟩:=q3_of KA.out
   go_region_held3 (fun w'=>w'.cell? ⟨gB,2,none⟩=some (.slice (some ⟨gr,0,none⟩) nr cr)∧w'.cell? ⟨g4,0,none⟩=some (.slice An nn cn))
    (first|go_keep|(exact⟨q1,p1⟩)|(exact⟨q2 _,p2 _⟩))
    (first
     |(go_at_call 55;refine(cloneI An nn cn ns _ HNN (HN.out _ (by assumption)) (by have:=HL.out;have:=HNN.out;omega)).mono ?_;rintro e w6 ⟨A5,c5,rfl,how5,hb5⟩;have bF:=κ (below_step bE.out hb5);have hr6:=own_room (own_below OI.out.r bF.out);have c6:=hr6.2.2.2.2.2 (i*3) _ (by have:=rcs_get rl' i 0 hil (by decide);exact this);have fz6:=(hr6.2.2.2.2.1 (i*3) (by omega)).2;clear hr6;have q1:w6.cell? ⟨gB,2,none⟩=some (.slice (some ⟨gr,0,none⟩) nr cr):=cell_later hb5 (by assumption);have p1:w6.cell? ⟨g4,0,none⟩=some (.slice An nn cn):=cell_later hb5 (by assumption);have q2: ∀x,(w6.setCell ⟨gr,i*3,none⟩ x).cell? ⟨gB,2,none⟩=some (.slice (some ⟨gr,0,none⟩) nr cr):=fun x=>(World.cell?_setCell_other _ _ _ _ (by intro e;injection e with e;exact hgrB e)).trans q1;have p2: ∀x,(w6.setCell ⟨gr,i*3,none⟩ x).cell? ⟨g4,0,none⟩=some (.slice An nn cn):=fun x=>(World.cell?_setCell_other _ _ _ _ (by intro e;injection e with e;exact hgr4 e)).trans p1))
   have OI2:Hid (Oi w w.heap.size (w6.setCell (α gr (i*3)) (.slice A5 nn c5)) gB gR sh ca (some (α gr 0)) Ao nr cr no co rl (rl'.set i ⟨A5,c5,⟨(gC rl i).r.ns,(gC rl' i).r.sec,(gC rl' i).r.cnt⟩⟩) bk.rows bk.op (i+1)):=by
    have hns:(gC rl i).r.ns=ns:=by rw[←HR.out]
    have:=Oi.step OI.out hlt rfl bF.out τ OI.out.b.size (A5:=A5) (c5:=c5) (by rw[hns,←HNN.out];exact own_mono how5 bE.out.size);rw[hns,←HNN.out]at this;rw[hns];exact this
   go_wp2_with fail
   go_roundg g
   case measure=>omega
   case rel=>exact⟨i+1,_,by omega,by rw[Int.natCast_add];rfl,OI2⟩
  ·have t0:decide ((i:Int)<(nr:Int))=false:=by simp;omega
   have hi2:i=nr:=by omega
   obtain⟨k0,k1,k2,k3⟩:=q4_of OI.out.kB;obtain⟨z0,z1,z2,z3,f0,f1,f2,f3⟩:=z4_of OI.out.kR;have F3:Blk (st4 wr gR (ι sh) (ι ca) (.slice Ar nr cr) (.slice Ao no co)) gR 75 (vB sh ca Ar nr cr Ao no co):=st4_blk OI.out.kR
   have hfin:MadeBo bk w (.returned (.agg (vB sh ca Ar nr cr Ao no co))) (st4 wr gR (ι sh) (ι ca) (.slice Ar nr cr) (.slice Ao no co)):=by
    refine⟨Ar,Ao,cr,co,rl',?_,⟨?_,?_,OI.out.e,?_,?_⟩,st4_below OI.out.b hgR1.out⟩
    ·unfold bkA;rw[←hnr.out,←hno.out,←hsh.out.1,←hsh.out.2]
    ·rw[←hnr.out];exact own_st4 OI.out.r OI.out.kR (by decide)
    ·rw[←hno.out];exact own_st4 OI.out.o OI.out.kR (by decide)
    ·intro k hk;exact own_st4 (OI.out.own k (by rw[OI.out.len]at hk;omega)) OI.out.kR (by decide)
    ·rw[OI.out.len,←hi2];exact OI.out.ap
   have HF:=κ hfin;clear hfin OI hi2
   go_wp2_with fail
   obtain⟨d0,d1,d2,d3⟩:=q4_of F3;clear F3;unfold st4 at d0 d1 d2 d3 HF;exact bodyPost_ret (v:= .agg #[ι sh,ι ca,.slice Ar nr cr,.slice Ao no co]) (by simp[results,Tryz.results53,go_sem,d0,d1,d2,d3]) rfl HF.out
end Mdw
namespace Mdv
open Fix3 Cfg Bku Bka Bkc Mdp Mdz Mds Mdn Mdw
open Mdo hiding gB
def bookF(q:Mq)(i:Int):Bk:=if hasF q.nb i=true then (gX q.xs i.toNat).b else bk0
theorem Bo_zero(base:Nat)(w:World):Bo base w none none 0 0 [] bk0:=
 ⟨⟨rfl,.inl ⟨rfl,rfl⟩⟩,⟨rfl,.inl ⟨rfl,rfl⟩⟩,rfl,fun k hk=>absurd hk (Nat.not_lt_zero _),by intro i j hij hj;exact absurd hj (by simp)⟩
theorem book_any(base g:Nat)(q:Mq)(i:Int)(w:World)(h:Hid (Mm base w g q))(hi:inI i)(hn:q.nb≤1000)(hf: ∀k,k<q.xs.length→FewB (gX q.xs k).b):
  Calls Tryz.prog 17 #[.pointer (some ⟨g,0,none⟩),.int .i64 i] w (MadeBo (bookF q i) w):=by
 obtain⟨sh,wi,ra,ta,A,B,C,nl,al,sl,c,d,f,nd,ac,sy,Ab,nb,cb,xs,An,Au,n1,n2,d1,d2,cl,cu,ep,off⟩:=q;simp only at hn hf;have U0:=κ (β w (.cells (vB 0 0 none 0 0 none 0 0) 75));have Z0:=κ (Blk.fresh w 75 (vB 0 0 none 0 0 none 0 0));have M0:=κ (Mm_below h.out U0.out);have HL:Hid (w.heap.size<(w.alloc (.cells (vB 0 0 none 0 0 none 0 0) 75)).heap.size):=by show _<_;simp
 have HI:=κ hi;clear hi
 go_enter Tryz.func17,Tryz.ntmps17
 go_upto_region 1 with fail
 generalize hgZ:w.heap.size=gZ at Z0 HL ⊢;have HGZ:=κ hgZ;clear hgZ;generalize (w.alloc (.cells (vB 0 0 none 0 0 none 0 0) 75))=w0 at Z0 U0 M0 HL ⊢;have K0:Hid (Blk w0 g 97 (vQ sh wi ra ta A nl c B al d C sl f Ab nb cb An n1 d1 Au n2 d2 ep off)):=M0.out.blk;obtain⟨k0,k1,k2,k3,k4,k5,k6,k7,k8,k9,k10,k11,f0,f1,f2,f3,f4,f5,f6,f7,f8,f9,f10,f11⟩:=q12_of K0.out;obtain⟨z0,z1,z2,z3,y0,y1,y2,y3⟩:=z4_of Z0.out;have HAS:=has_any Ab nb cb i w0 (by omega) HI.out;by_cases hh:hasF nb i=true
 case neg=>
  have hh':hasF nb i=false:=by simpa using hh
  have hB:Hid (bookF ⟨sh,wi,ra,ta,A,B,C,nl,al,sl,c,d,f,nd,ac,sy,Ab,nb,cb,xs,An,Au,n1,n2,d1,d2,cl,cu,ep,off⟩ i=bk0):=by show _=_;unfold bookF;rw[if_neg hh]
  rw[hh']at HAS;have F3:Blk (st4 w0 gZ (ι 0) (ι 0) (.slice none 0 0) (.slice none 0 0)) gZ 75 (vB 0 0 none 0 0 none 0 0):=st4_blk Z0.out
  have hfin:MadeBo (bookF ⟨sh,wi,ra,ta,A,B,C,nl,al,sl,c,d,f,nd,ac,sy,Ab,nb,cb,xs,An,Au,n1,n2,d1,d2,cl,cu,ep,off⟩ i) w (.returned (.agg (vB 0 0 none 0 0 none 0 0))) (st4 w0 gZ (ι 0) (ι 0) (.slice none 0 0) (.slice none 0 0)):=by
   rw[hB.out];exact⟨none,none,0,0,[],rfl,Bo_zero _ _,st4_below U0.out (by rw[HGZ.out];exact τ)⟩
  have HF:=κ hfin;clear hfin
  go_wp2_with fail
  refine HAS.mono ?_;rintro e w1 ⟨rfl,rfl⟩
  go_wp2_with fail
  obtain⟨e0,e1,e2,e3⟩:=q4_of F3;clear F3;unfold st4 at e0 e1 e2 e3 HF;exact bodyPost_ret (v:= .agg #[ι 0,ι 0,.slice none 0 0,.slice none 0 0]) (by simp[results,Tryz.results17,go_sem,e0,e1,e2,e3]) rfl HF.out
 case pos=>
  rw[hh]at HAS;have hi2:0≤i∧i<(nb:Int):=by simpa[hasF] using hh
  obtain⟨sN,hsN⟩: ∃k:Nat,i=k:=⟨i.toNat,by omega⟩;subst hsN;have hsNb:sN<nb:=by omega
  obtain⟨gb,hgb⟩:=own_at M0.out.row (by show 0<nb;omega);simp only at hgb;subst hgb;have L4:=κ (ξ M0.out.l4);have hsx:Hid (sN<xs.length):=by show _<_;rw[←L4.out];exact hsNb
  have RM2:=own_room M0.out.row;have c0:=RM2.2.2.2.2.2 (sN*4) _ (by have:=bxs_get xs sN 0 hsx.out (by decide);exact this);have c1:=RM2.2.2.2.2.2 (sN*4+1) _ (by have:=bxs_get xs sN 1 hsx.out (by decide);exact this);have c2:=RM2.2.2.2.2.2 (sN*4+2) _ (by have:=bxs_get xs sN 2 hsx.out (by decide);exact this);have c3:=RM2.2.2.2.2.2 (sN*4+3) _ (by have:=bxs_get xs sN 3 hsx.out (by decide);exact this);clear RM2;have BM0:=κ (M0.out.bm sN hsx.out);have FEW:=κ (hf sN hsx.out)
  have HBK:Hid (bookF ⟨sh,wi,ra,ta,A,B,C,nl,al,sl,c,d,f,nd,ac,sy,some (α gb 0),nb,cb,xs,An,Au,n1,n2,d1,d2,cl,cu,ep,off⟩ (sN:Int)=(gX xs sN).b):=by
   show _=_;unfold bookF;rw[if_pos hh]
   rfl
  simp only at BM0;generalize gX xs sN=X at c0 c1 c2 c3 BM0 FEW HBK ⊢;obtain⟨XA,XC,xc,xd,xrl,xb⟩:=X;obtain⟨bsh,hbsh⟩:=ν xb.sh;obtain⟨bca,hbca⟩:=ν xb.ca;obtain⟨nr2,hnr2⟩:=ν xb.rows.length;obtain⟨no2,hno2⟩:=ν xb.op.length;simp only[bxV,List.getElem?_cons_zero,List.getElem?_cons_succ]at c0 c1 c2 c3;have HSHB:Hid (bsh=xb.sh∧bca=xb.ca):=⟨hbsh,hbca⟩;have HNR2:=κ hnr2;have HNO2:=κ hno2;simp only at BM0 FEW HBK;rw[←hbsh]at c0;rw[←hbca]at c1;rw[←hnr2]at c2;rw[←hno2]at c3;clear hbsh hbca hnr2 hno2;have OB:=ownBook_any bsh bca XA XC nr2 no2 xc xd xrl xb w0 HSHB HNR2 HNO2 BM0 FEW;have tsn:decide ((sN:Int)<(nb:Int))=true:=by simp;omega
  go_wp2_with fail
  refine HAS.mono ?_;rintro e w1 ⟨rfl,rfl⟩
  go_wp2_with fail
  refine OB.mono ?_;rintro e w2 ⟨A',C',c',d',rl',rfl,hBo,hb2⟩;have Z2:=κ (Blk.below' Z0.out hb2);have U2:=κ (CrdB.below_step U0.out hb2);have HLw:=κ U0.out.size;have F3:Blk (st4 w2 gZ (ι xb.sh) (ι xb.ca) (.slice A' xb.rows.length c') (.slice C' xb.op.length d')) gZ 75 (vB xb.sh xb.ca A' xb.rows.length c' C' xb.op.length d'):=st4_blk Z2.out
  have hfin:MadeBo xb w (.returned (.agg (vB xb.sh xb.ca A' xb.rows.length c' C' xb.op.length d'))) (st4 w2 gZ (ι xb.sh) (ι xb.ca) (.slice A' xb.rows.length c') (.slice C' xb.op.length d')):=
   ⟨A',C',c',d',rl',rfl,Bo_mono (Bo_st4 hBo Z2.out (by decide) (by decide) (by decide) _ _ _ _) HLw.out,st4_below U2.out (by rw[HGZ.out];exact τ)⟩
  have HF:=κ hfin;clear hfin hb2 hBo z0 z1 z2 z3 y0 y1 y2 y3;obtain⟨z0,z1,z2,z3,y0,y1,y2,y3⟩:=z4_of Z2.out;unfold bkA
  go_wp2_with fail
  obtain⟨e0,e1,e2,e3⟩:=q4_of F3;clear F3;unfold st4 at e0 e1 e2 e3 HF;exact bodyPost_ret (v:= .agg #[ι xb.sh,ι xb.ca,.slice A' xb.rows.length c',.slice C' xb.op.length d']) (by simp[results,Tryz.results17,go_sem,e0,e1,e2,e3]) rfl (by rw[HBK.out];exact HF.out)
end Mdv
end Go.Proofs.YtfbajlcljfjbkaaGreat
