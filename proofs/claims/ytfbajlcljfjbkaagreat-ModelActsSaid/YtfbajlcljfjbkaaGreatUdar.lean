/- Texts side by side. -/
import Derived.Test.YtfbajlcljfjbkaaGreatUdaj
set_option linter.unusedVariables false
set_option linter.unusedSimpArgs false
set_option maxRecDepth 100000
set_option maxHeartbeats 16000000
namespace Go.Proofs.YtfbajlcljfjbkaaGreat
open Kap Abv Lax Go.ChangeShapes Go.WideShapes Go.ChangeAt Go.RowKit Mem Tre Ref3 Law3 Fix3 Cfg Crd CrdB CrdC Rr4 Bkp Bks Bkf Bkg Bcl Dlk Stk Apt Bko Bku Bka Bkc Bkq Rba Rbc Rbd Lat Rmp Rmr Mdn Mdo Mdk Bkj Mdf Mdb
namespace Rmg
open Mdp hiding Mm Mm_below Mm_set Mm_off Mm_ep Mm_cr Mm_book Mm_lt
open Mdz hiding Mz_of Mm_setz
open Mds hiding MadeDo madeDo_no
open Rul1 hiding below_step
open Bkw hiding infoN Bo_below Bo_grown
open Rbf (rbegin7_any)
open Mdg (bgnP)
theorem infoBr:(Tryz.prog.info? 110).map (fun i=>(i.zero,i.size,i.bytes))=some (some (.agg #[.int .i64 0,.int .i64 0,.slice none 0 0,.slice none 0 0]),4,64):=by kernel_rfl
def MadeStB(A:Option Addr)(l:List (Int×Int))(w:World)(e:Ending)(w':World):Prop:=
 ∃c1 A' c',e= .returned (.agg #[.slice A l.length c1,.slice A' l.length c'])∧Nds w' w'.heap.size A l∧Ris w' w'.heap.size A' (zeros l.length)∧Below w.heap.size w w'∧(∀a,A'=some a→w.heap.size≤a.block)
theorem rbegin_fresh(A:Option Addr)(c:Nat)(l:List (Int×Int))(w:World)(hl:Hid (Nds w w.heap.size A l))(hmax:(l.length:Int)≤1000000):
  Calls Tryz.prog 28 #[.slice A l.length c] w (MadeStB A l w):=by
 obtain⟨i0,hi,hz0,hz1,hz2⟩:=info_parts i64_info;have hmk:=fun(W:World)=>run_make (P:=Tryz.prog) W 78 2 i0 (ι 0) Tryz.underlying78 hi hz0 .i64 .i64 (l.length:Int) (l.length:Int) (by omega) (by omega) (by rw[hz2];omega) (by omega)
 simp only[Int.toNat_natCast,hz1,Nat.mul_one]at hmk
 go_enter Tryz.func28,Tryz.ntmps28
 go_wp2_with fail
 have kz:Rd ((w.alloc (.cells (vS A l.length c (some (α (w.heap.size+1) 0)) l.length l.length) 102)).alloc (.cells (madeCells #[ι 0] l.length) 2)) ((w.alloc (.cells (vS A l.length c (some (α (w.heap.size+1) 0)) l.length l.length) 102)).alloc (.cells (madeCells #[ι 0] l.length) 2)).heap.size (some (α (w.heap.size+1) 0)) (ints (zeros l.length)):=by
  have:=Blk.fresh (w.alloc (.cells (vS A l.length c (some (α (w.heap.size+1) 0)) l.length l.length) 102)) 2 (madeCells #[ι 0] l.length);rw[World.size_alloc]at this;exact this.rd' (made_zeros _)
 have hb:=γ w (.cells (vS A l.length c (some (α (w.heap.size+1) 0)) l.length l.length) 102) (.cells (madeCells #[ι 0] l.length) 2);exact bodyPost_ret (v:= .agg #[.slice A l.length c,.slice (some (α (w.heap.size+1) 0)) l.length l.length]) (by simp[results,Tryz.results28,go_sem]) rfl ⟨_,_,_,rfl,Rd.below' hl.out hb hb.size,kz,hb,fun a ha=>by cases ha;exact Nat.le_succ _⟩
def MadeRm(A B C:Option Addr)(sh wi ra ta:Int)(nd:List (Int×Int))(ac:List Int)(sy:List (Int×Int×Int×Nat))(w:World)(e:Ending)(w':World):Prop:=
 ∃g q,e= .returned (.pointer (some ⟨g,0,none⟩))∧Rm w.heap.size w' g q∧plO q=bgnP sh wi ra ta nd ac sy∧Cq q∧Below w.heap.size w w'∧ ∀z,z<w.heap.size→FarE z A (Mem.nds nd)→FarE z B (ints ac)→FarE z C (smbs sy)→Mz z g q
theorem cq_of{xs:List Bx}{n al:Nat}(h:xs.map Bx.b=(List.range n).map (fun k:Nat=>beginF al (k:Int))): ∀i,i<xs.length→(gX xs i).b.op.length≤(gX xs i).d:=by
 intro i hi;have h1:(gX xs i).b∈xs.map Bx.b:=List.mem_map.2 ⟨gX xs i,by unfold gX;rw[List.getD_eq_getElem?_getD,List.getElem?_eq_getElem hi];exact List.getElem_mem hi,rfl⟩;rw[h]at h1;obtain⟨k,_,hk⟩:=List.mem_map.1 h1;rw[←hk];exact Nat.zero_le _
theorem rmbegin_any(sN:Nat)(wi ra ta:Int)(A B C:Option Addr)(nl al sl c d f:Nat)(nd:List (Int×Int))(ac:List Int)(sy:List (Int×Int×Int×Nat))(w:World)(L1:Hid (nl=nd.length))(L2:Hid (al=ac.length))(L3:Hid (sl=sy.length))
  (hn:Hid (Nds w w.heap.size A nd))(ha:Hid (Ris w w.heap.size B ac))(hs:Hid (Smb w w.heap.size C sy))(m1:nl≤1000)(hal:al≤1000)(hsh:sN≤1000):
  Calls Tryz.prog 9 #[.agg #[.int .i64 (sN:Int),.int .i64 wi,.int .i64 ra,.int .i64 ta,.slice A nl c,.slice B al d,.slice C sl f]] w (MadeRm A B C (sN:Int) wi ra ta nd ac sy w):=by
 have U0:=κ (β w (.cells (vC (sN:Int) wi ra ta A nl c B al d C sl f) 30));have C0:=κ (Blk.fresh w 30 (vC (sN:Int) wi ra ta A nl c B al d C sl f));have N0:=θ hn.out U0.out;have R0:=η ha.out U0.out;have S0:Hid (Smb (w.alloc (.cells (vC (sN:Int) wi ra ta A nl c B al d C sl f) 30)) (w.alloc (.cells (vC (sN:Int) wi ra ta A nl c B al d C sl f) 30)).heap.size C sy):=Rd.below' hs.out U0.out U0.out.size
 go_enter Tryz.func9,Tryz.ntmps9
 go_upto_region 1 with fail
 obtain⟨gC,hgC⟩:=ν w.heap.size;have C1':=κ (ζ hgC C0.out);have HGC:Hid (w.heap.size≤gC):=by show _≤_;omega
 simp only[←hgC];clear hgC C0;generalize (w.alloc (.cells (vC (sN:Int) wi ra ta A nl c B al d C sl f) 30))=w1 at U0 C1' N0 R0 S0 ⊢;have BG:=fun W hn=>rbegin_fresh A c nd W hn (by rw[←L1.out];omega)
 unfold MadeStB at BG;rw[←L1.out]at BG
 go_cut [3] (fun sM wx=> ∃(gM:Nat) (Au:Option Addr) (dn du:Nat),sM= .pointer (some (α gM 0))∧Hid (Rm w.heap.size wx gM ⟨(sN:Int),wi,ra,ta,A,B,C,nl,al,sl,c,d,f,nd,ac,sy,none,0,0,[],A,Au,nl,nl,dn,du,nd,zeros nl,0,false⟩)∧Hid (Blk wx gC 30 (vC (sN:Int) wi ra ta A nl c B al d C sl f))∧Hid (Below w.heap.size w wx)∧Hid (∀z,z<w.heap.size→FarE z A (Mem.nds nd)→FarE z B (ints ac)→FarE z C (smbs sy)→Mz z gM ⟨(sN:Int),wi,ra,ta,A,B,C,nl,al,sl,c,d,f,nd,ac,sy,none,0,0,[],A,Au,nl,nl,dn,du,nd,zeros nl,0,false⟩))
 case first=>
  have Cd:=κ (ε C1'.out);have Ud:=κ (Below.drew U0.out);have Bd:Hid (Below w1.heap.size w1 w1.drew):=Below.drew ψ;let T26:World→Prop:=fun w'=>w'.cell? (α gC 0)=some (ι (sN:Int))∧w'.cell? (α gC 1)=some (ι wi)∧w'.cell? (α gC 2)=some (ι ra)∧w'.cell? (α gC 3)=some (ι ta)∧w'.cell? (α gC 4)=some (.slice A nl c)∧w'.cell? (α gC 5)=some (.slice B al d)∧w'.cell? (α gC 6)=some (.slice C sl f)
  have HT:Hid (T26 (w1.drew)):=⟨Cd.out.cell 0,Cd.out.cell 1,Cd.out.cell 2,Cd.out.cell 3,Cd.out.cell 4,Cd.out.cell 5,Cd.out.cell 6⟩;refine Ω T26 [] ?_;refine jB 0 HT.out ?_;refine jA 1 HT.out ?_;refine jB 2 HT.out ?_;refine jN 3 fun K' hK=>?_
  go_simp;refine(BG _ (κ (Rd.below' N0.out Bd.out Bd.out.size))).mono ?_;rintro e w3 ⟨dn,Au,du,rfl,hcn,hcu,hbb,fau⟩;have B3:=κ (CrdB.below_step Bd.out hbb);have U3:=κ (CrdB.below_step Ud.out hbb);have C3:=κ (Blk.below' Cd.out hbb);have HT3:Hid (T26 w3):=⟨C3.out.cell 0,C3.out.cell 1,C3.out.cell 2,C3.out.cell 3,C3.out.cell 4,C3.out.cell 5,C3.out.cell 6⟩;have NN:=κ hcn;have NU:=κ hcu;clear hcn hcu hbb
  go_wp2_with fail
  refine hK.out _ _ HT3.out ?_;clear hK K';refine jP ?_;refine jA 4 HT3.out ?_;have UA:=κ (β w3 (.cells (vQ (sN:Int) wi ra ta A nl c B al d C sl f none 0 0 A nl dn Au nl du 0 false) 106));have CA:=κ (Blk.below' C3.out UA.out);have HTA:Hid (T26 (w3.alloc (.cells (vQ (sN:Int) wi ra ta A nl c B al d C sl f none 0 0 A nl dn Au nl du 0 false) 106))):=⟨CA.out.cell 0,CA.out.cell 1,CA.out.cell 2,CA.out.cell 3,CA.out.cell 4,CA.out.cell 5,CA.out.cell 6⟩;refine jN 5 fun K' hK=>?_
  go_simp;refine hK.out _ _ HTA.out ?_;clear hK K';refine jP ?_;refine jA 6 HTA.out ?_;refine Δ ?_;have HMN:Hid (Rm w.heap.size (w3.alloc (.cells (vQ (sN:Int) wi ra ta A nl c B al d C sl f none 0 0 A nl dn Au nl du 0 false) 106)) w3.heap.size ⟨(sN:Int),wi,ra,ta,A,B,C,nl,al,sl,c,d,f,nd,ac,sy,none,0,0,[],A,Au,nl,nl,dn,du,nd,zeros nl,0,false⟩):=Rm_new (Rd.below' N0.out B3.out B3.out.size) (Rd.below' R0.out B3.out B3.out.size) (Rd.below' S0.out B3.out B3.out.size) NN.out NU.out L1.out L2.out L3.out L1.out (by rw[L1.out];exact List.length_replicate.symm) U3.out.size;have HZ0:Hid (∀z,z<w.heap.size→FarE z A (Mem.nds nd)→FarE z B (ints ac)→FarE z C (smbs sy)→Mz z w3.heap.size ⟨(sN:Int),wi,ra,ta,A,B,C,nl,al,sl,c,d,f,nd,ac,sy,none,0,0,[],A,Au,nl,nl,dn,du,nd,zeros nl,0,false⟩):=fun z hz h1 h2 h3=>⟨by have:=U3.out.size;omega,h1,h2,h3,h1,FarE_new (base:=w1.drew.heap.size) (by have:=Ud.out.size;omega) fau,fun i hi=>absurd hi (Nat.not_lt_zero _)⟩
  go_wp2_with fail
  go_meet;exact⟨w3.heap.size,Au,dn,du,rfl,HMN,CA,CrdB.below_step U3.out UA.out,HZ0⟩
 case rest=>
  obtain⟨gM,Au,dn,du,rfl,M2,C3,U2,HZ2⟩:=hcut
  rename World=>w2
  clear BG N0 R0 S0;obtain⟨i0,hi0,hz0,hz1,hz2⟩:=info_parts infoBr
  have CM:Hid (gC≠gM):=fun e=>by
   have h1:=C3.out;have h2:=M2.out.blk;rw[e]at h1;unfold Blk at h1 h2;rw[h1]at h2;injection h2 with h2
   injection h2 with _ h3 _
   revert h3
   decide
  go_wp2_with fail
  go_loopg [4] sN (fun g9 s21 w'=> ∃(j:Nat) (Ab:Option Addr) (nb cb:Nat) (xs:List Bx),j+g9=sN∧s21= ι j∧Hid (nb=j)∧Hid (xs.map Bx.b=(List.range j).map (fun k:Nat=>beginF al (k:Int)))∧Hid (Rm w.heap.size w' gM ⟨(sN:Int),wi,ra,ta,A,B,C,nl,al,sl,c,d,f,nd,ac,sy,Ab,nb,cb,xs,A,Au,nl,nl,dn,du,nd,zeros nl,0,false⟩)∧Hid (Blk w' gC 30 (vC (sN:Int) wi ra ta A nl c B al d C sl f))∧Hid (Below w.heap.size w w')∧Hid (∀z,z<w.heap.size→FarE z A (Mem.nds nd)→FarE z B (ints ac)→FarE z C (smbs sy)→Mz z gM ⟨(sN:Int),wi,ra,ta,A,B,C,nl,al,sl,c,d,f,nd,ac,sy,Ab,nb,cb,xs,A,Au,nl,nl,dn,du,nd,zeros nl,0,false⟩))
  case atStart=>exact⟨0,none,0,0,[],by omega,rfl,rfl,rfl,M2,C3,U2,HZ2⟩
  case round=>
   clear M2 C3 U2 HZ2;obtain⟨j,Ab,nb,cb,xs,hg0,rfl,HNB,HXB,Mr,Cr,Ur,HZr⟩:=hrel;obtain⟨k0,k1,k2,k3,k4,k5,k6⟩:=q7_of Cr.out;by_cases hlt:j<sN
   ·obtain⟨g8,rfl⟩: ∃g8,gk=g8+1:=⟨gk-1,by omega⟩;have t0:decide ((j:Int)<(sN:Int))=true:=by simp;omega
    have hnb9:nb≤1000:=by have:=HNB.out;omega
    go_upto_region 5 with fail
    clear k0 k1 k2 k3 k4 k5 k6;have BB:=rbegin7_any (sN:Int) wi ra ta A B C nl al sl c d f (j:Int) wr.drew hal;unfold Rbf.MadeBg at BB;rw[show bkA (some ⟨wr.drew.heap.size+1+1,0,none⟩) none al 0 (beginF al (j:Int))= .agg #[.int .i64 (j:Int),.int .i64 0,.slice (some ⟨wr.drew.heap.size+1+1,0,none⟩) al al,.slice none 0 0] from by simp[bkA,beginF]]at BB;have Md:=κ (Rm_below Mr.out (Below.drew ψ));have Cd:=κ (ε Cr.out);let T99:World→Prop:=fun w'=>w'.cell? (α gM 7)=some (.slice Ab nb cb)∧w'.cell? (α gC 0)=some (ι (sN:Int))∧w'.cell? (α gC 1)=some (ι wi)∧w'.cell? (α gC 2)=some (ι ra)∧w'.cell? (α gC 3)=some (ι ta)∧w'.cell? (α gC 4)=some (.slice A nl c)∧w'.cell? (α gC 5)=some (.slice B al d)∧w'.cell? (α gC 6)=some (.slice C sl f)
    have HT:Hid (T99 (wr.drew)):=⟨Md.out.blk.cell 7,Cd.out.cell 0,Cd.out.cell 1,Cd.out.cell 2,Cd.out.cell 3,Cd.out.cell 4,Cd.out.cell 5,Cd.out.cell 6⟩;have Ud:=κ (Below.drew Ur.out);have LTr:=κ (Rm_lt Md.out);refine Ω T99 [12] ?_;refine jA 0 HT.out ?_;refine jA 1 HT.out ?_;refine jA 2 HT.out ?_;refine jA 3 HT.out ?_;refine jB 4 HT.out ?_;refine jB 5 HT.out ?_;refine jA 6 HT.out ?_;refine jN 7 fun K' hK=>?_
    go_simp;refine BB.mono ?_;rintro e w4 ⟨rfl,hbm,hb4⟩;have M4:=κ (Rm_below Md.out hb4);have C4:=κ (Blk.below' Cd.out hb4);have U4:=κ (CrdB.below_step Ud.out hb4);have hb4s:Hid (wr.heap.size≤w4.heap.size):=hb4.size;have HT2:Hid (T99 w4):=⟨M4.out.blk.cell 7,C4.out.cell 0,C4.out.cell 1,C4.out.cell 2,C4.out.cell 3,C4.out.cell 4,C4.out.cell 5,C4.out.cell 6⟩;have BM:=κ hbm;clear hbm hb4
    go_wp2_with fail
    refine hK.out _ _ HT2.out ?_;clear hK K';refine jP ?_;have V5:=β w4 (.cells (vB (j:Int) 0 (some (α (wr.heap.size+1+1) 0)) al al none 0 0) 110);have M5:=κ (Rm_below M4.out V5);have C5:=κ (Blk.below' C4.out V5);have U5:=κ (CrdB.below_step U4.out V5);have HT5:Hid (T99 (w4.alloc (.cells (vB (j:Int) 0 (some (α (wr.heap.size+1+1) 0)) al al none 0 0) 110))):=⟨M5.out.blk.cell 7,C5.out.cell 0,C5.out.cell 1,C5.out.cell 2,C5.out.cell 3,C5.out.cell 4,C5.out.cell 5,C5.out.cell 6⟩;have R5:Hid (Rd (w4.alloc (.cells (vB (j:Int) 0 (some (α (wr.heap.size+1+1) 0)) al al none 0 0) 110)) (w4.alloc (.cells (vB (j:Int) 0 (some (α (wr.heap.size+1+1) 0)) al al none 0 0) 110)).heap.size (some (α w4.heap.size 0)) [ι (j:Int),ι 0,.slice (some (α (wr.heap.size+1+1) 0)) al al,.slice none 0 0]):=rd_new rfl;have B5:Hid (Bm (w4.alloc (.cells (vB (j:Int) 0 (some (α (wr.heap.size+1+1) 0)) al al none 0 0) 110)) (some (α (wr.heap.size+1+1) 0)) none (List.replicate al rc0) (beginF al (j:Int))):=BM.out.below V5;obtain⟨n6,hn6⟩:=ν (nb+1);have HN6:=κ hn6;have O5:=κ (ξ M5.out.row);have Z5:=U5.out.size;clear hn6 V5;refine jN 8 fun K' hK=>?_
    go_simp;refine hK.out _ _ HT5.out ?_;clear hK K';refine jP ?_;refine jN 9 fun K' hK=>?_
    refine step_appA O5 R5 HN6.out rfl _ _ _ rfl i0 (.agg #[ι 0,ι 0,.slice none 0 0,.slice none 0 0]) 64 Tryz.underlying104 hi0 hz0 hz1 hz2 rfl (by decide) rfl rfl rfl (by simp[Value.oneCell']) (by unfold maxLen;omega) (by omega) Z5 ?_;intro A6 c6 w6 hown6 hgr6 hob6;have K6:Hid (Blk w6 gM 106 (vQ (sN:Int) wi ra ta A nl c B al d C sl f Ab nb cb A nl dn Au nl du 0 false)):=blk_own_grown M5.out.blk M5.out.row (by decide) hgr6.out;have C6:=κ (blk_own_grown C5.out M5.out.row (by decide) hgr6.out);have U6:=κ (grown_below U5.out M5.out.row hgr6.out τ U5.out.size);have HT6:Hid (T99 w6):=⟨K6.out.cell 7,C6.out.cell 0,C6.out.cell 1,C6.out.cell 2,C6.out.cell 3,C6.out.cell 4,C6.out.cell 5,C6.out.cell 6⟩;have x7:=χ (K6.out.cell 7);have y7:=K6.out.thaw 7;refine hK.out _ _ HT6.out ?_;clear hK K';refine jP ?_;refine jA 10 HT6.out ?_;refine jA 11 HT6.out ?_;refine jV 12 fun K' hK=>?_
    go_simp;refine hK.out _ _ ?_;clear hK K';refine jP ?_;refine Δ ?_;have M7:=κ (ξ (Rm_push M5.out (x:=⟨some (α (wr.heap.size+1+1) 0),none,al,0,List.replicate al rc0,beginF al (j:Int)⟩) B5.out (FarX_new (base:=wr.heap.size) LTr.out.1 LTr.out.2 (Fb_begin _ al wr τ)) HN6.out (by rw[show bxV ⟨some (α (wr.heap.size+1+1) 0),none,al,0,List.replicate al rc0,beginF al (j:Int)⟩=[ι (j:Int),ι 0,.slice (some (α (wr.heap.size+1+1) 0)) al al,.slice none 0 0] from by simp[bxV,beginF]];exact hown6.out) hgr6.out hob6.out));have C7:Hid (Blk (w6.setCell (α gM 7) (.slice A6 n6 c6)) gC 30 (vC (sN:Int) wi ra ta A nl c B al d C sl f)):=far_st C6.out CM.out _;have U7:Hid (Below w.heap.size w (w6.setCell (α gM 7) (.slice A6 n6 c6))):=U6.out.setCell (p:=(α gM 7)) M5.out.gb _
    have HX7:Hid ((xs++[(⟨some (α (wr.heap.size+1+1) 0),none,al,0,List.replicate al rc0,beginF al (j:Int)⟩:Bx)]).map Bx.b=(List.range (j+1)).map (fun k:Nat=>beginF al (k:Int))):=by
     show _=_;rw[List.map_append,HXB.out,List.range_succ,List.map_append]
     rfl
    have HZ7:Hid (∀z,z<w.heap.size→FarE z A (Mem.nds nd)→FarE z B (ints ac)→FarE z C (smbs sy)→Mz z gM ⟨(sN:Int),wi,ra,ta,A,B,C,nl,al,sl,c,d,f,nd,ac,sy,A6,n6,c6,(xs++[⟨some (α (wr.heap.size+1+1) 0),none,al,0,List.replicate al rc0,beginF al (j:Int)⟩]),A,Au,nl,nl,dn,du,nd,zeros nl,0,false⟩):=fun z hz h1 h2 h3=>by
     have m:=HZr.out z hz h1 h2 h3;have hzr:z<wr.heap.size:=by have:=Ur.out.size;omega
     refine⟨m.ne,m.z1,m.z2,m.z3,m.z4,m.z5,fun i hi=>?_⟩;have hi':i<xs.length+1:=by simpa using hi
     show FzB z (gX (xs++[(⟨some ⟨wr.heap.size+1+1,0,none⟩,none,al,0,List.replicate al rc0,beginF al (j:Int)⟩:Bx)]) i);rw[gX_snoc _ _ _ hi'];by_cases hx:i=xs.length
     ·rw[if_pos hx];exact FzB_new (base:=wr.heap.size) hzr (Fb_begin _ al wr τ)
     ·rw[if_neg hx];exact m.zx i (by show i<xs.length;omega)
    have HN7:Hid (n6=j+1):=by show _=_;rw[HN6.out,HNB.out]
    clear x7 y7 HT HT2 HT5 HT6 K6 C6 U6 M5 C5 U5 O5 R5 B5 hown6 hgr6 hob6 M4 C4 U4 BM Md Cd Ud BB Z5;generalize (w6.setCell (α gM 7) (.slice A6 n6 c6))=w7 at M7 C7 U7 ⊢;have ewj:IntKind.i64.wrap ((j:Int)+1)=(j:Int)+1:=by rw[IntKind.wrap_i64];omega
    go_wp2_with fail
    go_roundg g8
    case measure=>omega
    case rel=>exact⟨j+1,A6,n6,c6,_,by omega,by rw[Int.natCast_add];rfl,HN7,HX7,M7,C7,U7,HZ7⟩
   ·have t0:decide ((j:Int)<(sN:Int))=false:=by simp;omega
    have hjn:j=sN:=by omega
    have hfin:MadeRm A B C (sN:Int) wi ra ta nd ac sy w (.returned (.pointer (some (α gM 0)))) wr:=by
     refine⟨gM,⟨(sN:Int),wi,ra,ta,A,B,C,nl,al,sl,c,d,f,nd,ac,sy,Ab,nb,cb,xs,A,Au,nl,nl,dn,du,nd,zeros nl,0,false⟩,rfl,Mr.out,?_,cq_of HXB.out,Ur.out,HZr.out⟩;unfold plO bgnP;simp only[HXB.out,hjn,Int.toNat_natCast,L1.out,L2.out]
    have HF:=κ hfin;clear hfin
    go_wp2_with fail
    exact bodyPost_ret (v:= .pointer (some (α gM 0))) (by simp[results,Tryz.results9,go_sem]) rfl HF.out
end Rmg
end Go.Proofs.YtfbajlcljfjbkaaGreat
