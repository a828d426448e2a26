/- Texts side by side. -/
import Derived.Test.YtfbajlcljfjbkaaGreatUdaa
set_option linter.unusedVariables false
set_option linter.unusedSimpArgs false
set_option maxRecDepth 100000
set_option maxHeartbeats 16000000
namespace Go.Proofs.YtfbajlcljfjbkaaGreat
open Kap Abv Lax Go.ChangeShapes Go.WideShapes Go.ChangeAt Go.RowKit Mem Tre Ref3 Law3 Fix3 Cfg Crd CrdB CrdC Rr4 Cfr Bkp Bks Bkf Bcl Dlk Stk Apt Bko Bku Bka Bkc Bkq Bkj Mdc Mdp Mdz Mds Mdb Mdf Lat
namespace Mdg
open Rul1 hiding below_step
open Mdo hiding gB
variable {ra sh ta wi:Int} {nd:List (Int×Int)} {sy:List (Int×Int×Int×Nat)} {ac:List Int}
theorem infoBk:(Tryz.prog.info? 75).map (fun i=>(i.zero,i.size,i.bytes))=some (some (.agg #[.int .i64 0,.int .i64 0,.slice none 0 0,.slice none 0 0]),4,64):=by kernel_rfl
theorem q7_of{W:World}{g:Nat}{te:TypeId}{v0 v1 v2 v3 v4 v5 v6:Value}(hk:Blk W g te #[v0,v1,v2,v3,v4,v5,v6]):W.cell? ⟨g,0,none⟩=some v0∧W.cell? ⟨g,1,none⟩=some v1∧W.cell? ⟨g,2,none⟩=some v2∧W.cell? ⟨g,3,none⟩=some v3∧W.cell? ⟨g,4,none⟩=some v4∧W.cell? ⟨g,5,none⟩=some v5∧W.cell? ⟨g,6,none⟩=some v6:=⟨hk.cell 0,hk.cell 1,hk.cell 2,hk.cell 3,hk.cell 4,hk.cell 5,hk.cell 6⟩
def bgnP(sh wi ra ta:Int)(nd:List (Int×Int))(ac:List Int)(sy:List (Int×Int×Int×Nat)):Pm:=
 ⟨sh,wi,ra,ta,nd,ac,sy,(List.range sh.toNat).map (fun k:Nat=>beginF ac.length (k:Int)),nd,zeros nd.length,0,false⟩
def MadeMd(sh wi ra ta:Int)(nd:List (Int×Int))(ac:List Int)(sy:List (Int×Int×Int×Nat))(w:World)(e:Ending)(w':World):Prop:=
 Below w.heap.size w w'∧(cfgF sh wi ra ta nd ac sy≠0→e= .returned (.tuple #[.pointer none,.int .i64 (cfgF sh wi ra ta nd ac sy)]))∧
 (cfgF sh wi ra ta nd ac sy=0→ ∃g q,e= .returned (.tuple #[.pointer (some ⟨g,0,none⟩),.int .i64 0])∧Mm w.heap.size w' g q∧plO q=bgnP sh wi ra ta nd ac sy)
theorem Mm_new{base:Nat}{w:World}{A1 B1 C1 An Au:Option Addr}{nl al sl c1 d1 f1 n1 n2 dn du:Nat}{cl:List (Int×Int)}{cu:List Int}(hn:Nds w w.heap.size A1 nd)(ha:Ris w w.heap.size B1 ac)(hs:Smb w w.heap.size C1 sy)(hcn:Nds w w.heap.size An cl)(hcu:Ris w w.heap.size Au cu)
  (l1:nl=nd.length)(l2:al=ac.length)(l3:sl=sy.length)(l5:n1=cl.length)(l6:n2=cu.length)(hb:base≤w.heap.size):
  Mm base (w.alloc (.cells #[.int .i64 sh,.int .i64 wi,.int .i64 ra,.int .i64 ta,.slice A1 nl c1,.slice B1 al d1,.slice C1 sl f1,.slice none 0 0,.slice An n1 dn,.slice Au n2 du,.int .i64 0,.bool false] 97)) w.heap.size ⟨sh,wi,ra,ta,A1,B1,C1,nl,al,sl,c1,d1,f1,nd,ac,sy,none,0,0,[],An,Au,n1,n2,dn,du,cl,cu,0,false⟩:=by
 have U:=β w (.cells (vQ sh wi ra ta A1 nl c1 B1 al d1 C1 sl f1 none 0 0 An n1 dn Au n2 du 0 false) 97);have f: ∀{X:Option Addr} {ys:List Value},Rd w w.heap.size X ys→Far w.heap.size none X ys:=fun h=>Far_of h (.inl τ) (fun b hb=>by cases hb)
 exact⟨Blk.fresh _ _ _,World.ownsRow_nil _ _ _ _,hb,l1,l2,l3,rfl,l5,l6,Rd.below' hn U U.size,Rd.below' ha U U.size,Rd.below' hs U U.size,Rd.below' hcn U U.size,Rd.below' hcu U U.size,fun i hi=>absurd hi (Nat.not_lt_zero _),f hn,f ha,f hs,f hcn,f hcu,fun i hi=>absurd hi (Nat.not_lt_zero _)⟩
theorem cfg_ok(h:cfgF sh wi ra ta nd ac sy=0):
  sizB sh wi ra ta=true∧(chk nd).1=0∧1≤ac.length∧ac.length≤32∧accB nd.length ac=true∧1≤sy.length∧sy.length≤16∧tabB sy=true:=by
 cases h1:sizB sh wi ra ta with
 |false=>rw[cfgF_1 h1]at h;cases h
 |true=>
  by_cases h2:(chk nd).1=0
  ·by_cases h3:ac.length=0∨32<ac.length
   ·rw[cfgF_3 h1 h2 h3]at h;cases h
   ·cases h4:accB nd.length ac with
    |false=>rw[cfgF_4 h1 h2 h3 h4]at h;cases h
    |true=>
     by_cases h5:sy.length=0∨16<sy.length
     ·rw[cfgF_5 h1 h2 h3 h4 h5]at h;cases h
     ·cases h6:tabB sy with
      |false=>rw[cfgF_6 h1 h2 h3 h4 h5 h6]at h;cases h
      |true=>exact⟨rfl,h2,by omega,by omega,rfl,by omega,by omega,rfl⟩
  ·rw[cfgF_2 h1 h2]at h;exact absurd h h2
theorem siz_ok(h:sizB sh wi ra ta=true):1≤sh∧sh≤4∧0≤wi∧wi≤16∧1≤ra∧ra≤1000∧1≤ta∧ta≤64:=by
 unfold sizB btwB at h;simp only[Bool.and_eq_true,decide_eq_true_eq]at h;omega
theorem mbegin_any(sh wi ra ta:Int)(A B C:Option Addr)(nl al sl c d f:Nat)(nd:List (Int×Int))(ac:List Int)(sy:List (Int×Int×Int×Nat))(w:World)(L1:Hid (nl=nd.length))(L2:Hid (al=ac.length))(L3:Hid (sl=sy.length))
  (hn:Hid (Nds w w.heap.size A nd))(ha:Hid (Ris w w.heap.size B ac))(hs:Hid (Smb w w.heap.size C sy))(hw:Hid (WfN nd))(m1:nl≤100000)(m2:al≤100000)(m3:sl≤100000):
  Calls Tryz.prog 7 #[.agg #[.int .i64 sh,.int .i64 wi,.int .i64 ra,.int .i64 ta,.slice A nl c,.slice B al d,.slice C sl f]] w (MadeMd sh wi ra ta nd ac sy w):=by
 have U0:=κ (β w (.cells (vC sh wi ra ta A nl c B al d C sl f) 40));have C0:=κ (Blk.fresh w 40 (vC sh wi ra ta A nl c B al d C sl f));have N0:=θ hn.out U0.out;have R0:=η ha.out U0.out;have S0:Hid (Smb (w.alloc (.cells (vC sh wi ra ta A nl c B al d C sl f) 40)) (w.alloc (.cells (vC sh wi ra ta A nl c B al d C sl f) 40)).heap.size C sy):=Rd.below' hs.out U0.out U0.out.size
 go_enter Tryz.func7,Tryz.ntmps7
 go_upto_region 1 with fail
 obtain⟨gC,hgC⟩:=ν w.heap.size;have C1':=κ (ζ hgC C0.out);have HGC:Hid (w.heap.size≤gC):=by show _≤_;omega
 simp only[←hgC];clear hgC C0;generalize (w.alloc (.cells (vC sh wi ra ta A nl c B al d C sl f) 40))=w0 at U0 C1' N0 R0 S0 ⊢;have CK:=check5_any sh wi ra ta A B C c d f nd ac sy w0 N0 R0 S0 hw (by rw[←L1.out];omega) (by rw[←L2.out];omega) (by rw[←L3.out];omega);obtain⟨cc,hcc⟩:=ν (cfgF sh wi ra ta nd ac sy);rw[←hcc,←L1.out,←L2.out,←L3.out]at CK;have HCC:=κ hcc;clear hcc;obtain⟨k0,k1,k2,k3,k4,k5,k6⟩:=q7_of C1'.out
 go_wp2_with fail
 refine CK.mono ?_;rintro e w1 ⟨rfl,hb1⟩;have U1:=κ (CrdB.below_step U0.out hb1);have C2:=κ (Blk.below' C1'.out hb1);have N1:=θ N0.out hb1;have R1:=η R0.out hb1;have S1:Hid (Smb w1 w1.heap.size C sy):=Rd.below' S0.out hb1 hb1.size;clear hb1 k0 k1 k2 k3 k4 k5 k6 N0 R0 S0 C1' U0 CK;by_cases hc0:cc=0
 case neg=>
  have t1:(cc != 0)=true:=by simp[hc0]
  have hfin:MadeMd sh wi ra ta nd ac sy w (.returned (.tuple #[.pointer none,ι cc])) w1:=⟨U1.out,fun _=>by rw[HCC.out],fun h=>absurd (HCC.out.trans h) hc0⟩;have HF:=κ hfin;clear hfin
  go_wp2_with fail
  exact bodyPost_ret (v:= .tuple #[.pointer none,ι cc]) (by simp[results,Tryz.results7,go_sem]) rfl HF.out
 case pos=>
  have t1:(cc != 0)=false:=by simp[hc0]
  obtain⟨hsz,hchk,ha1,ha2,hacc,hs1,hs2,htab⟩:=cfg_ok (HCC.out.symm.trans hc0);obtain⟨z1,z2,z3,z4,z5,z6,z7,z8⟩:=siz_ok hsz;have hal:al≤1000:=by rw[L2.out];omega
  obtain⟨sN,hsN⟩: ∃k:Nat,sh=k:=⟨sh.toNat,by omega⟩;subst hsN;have HC0:=κ (HCC.out.symm.trans hc0);clear hsz hchk ha1 ha2 hacc hs1 hs2 htab hc0 HCC z3 z4 z5 z6 z7 z8
  go_upto_region 4 with fail
  have OC:=fun W hn ha hs=>owncfg_any (sN:Int) wi ra ta A B C nl al sl c d f nd ac sy W L1 L2 L3 hn ha hs m1 m2 m3
  have BG:=fun W hn=>begin_fresh A c nd W hn (by rw[←L1.out];omega)
  unfold MadeStF at BG;rw[show(zeros nd.length).length=nd.length from List.length_replicate]at BG;rw[←L1.out]at BG
  go_cut [5] (fun sM wx=> ∃(gM:Nat) (A1 B1 C1 An Au:Option Addr) (c1 d1 f1 dn du:Nat),sM= .pointer (some (α gM 0))∧Hid (Mm w.heap.size wx gM ⟨(sN:Int),wi,ra,ta,A1,B1,C1,nl,al,sl,c1,d1,f1,nd,ac,sy,none,0,0,[],An,Au,nl,nl,dn,du,nd,zeros nl,0,false⟩)∧Hid (Blk wx gC 40 (vC (sN:Int) wi ra ta A nl c B al d C sl f))∧Hid (Below w.heap.size w wx))
  case first=>
   let T61:World→Prop:=fun w'=>w'.cell? (α gC 0)=some (ι (sN:Int))∧w'.cell? (α gC 1)=some (ι wi)∧w'.cell? (α gC 2)=some (ι ra)∧w'.cell? (α gC 3)=some (ι ta)∧w'.cell? (α gC 4)=some (.slice A nl c)∧w'.cell? (α gC 5)=some (.slice B al d)∧w'.cell? (α gC 6)=some (.slice C sl f)
   have HT:Hid (T61 (w1.drew)):=⟨C2.out.cell 0,C2.out.cell 1,C2.out.cell 2,C2.out.cell 3,C2.out.cell 4,C2.out.cell 5,C2.out.cell 6⟩;have Cd:=κ (ε C2.out);have Ud:=κ (Below.drew U1.out);have Bd:Hid (Below w1.heap.size w1 w1.drew):=Below.drew ψ;refine Ω T61 [] ?_;refine jB 0 HT.out ?_;refine jA 2 HT.out ?_;refine jB 3 HT.out ?_;refine jN 1 fun K' hK=>?_
   go_simp;refine(OC _ (κ (Rd.below' N1.out Bd.out Bd.out.size)) (κ (Rd.below' R1.out Bd.out Bd.out.size)) (κ (Rd.below' S1.out Bd.out Bd.out.size))).mono ?_;rintro e w2 ⟨A1,B1,C1,c1,d1,f1,rfl,hn1,ha1,hs1,fa1,fb1,fc1,hbb⟩;have Bw2:=κ (CrdB.below_step Bd.out hbb);have Uw2:=κ (CrdB.below_step Ud.out hbb);have Cw2:=κ (Blk.below' Cd.out hbb);have HT2:Hid (T61 w2):=⟨Cw2.out.cell 0,Cw2.out.cell 1,Cw2.out.cell 2,Cw2.out.cell 3,Cw2.out.cell 4,Cw2.out.cell 5,Cw2.out.cell 6⟩;have NA:=κ hn1;have NB:=κ ha1;have NC:=κ hs1;clear hn1 ha1 hs1 fa1 fb1 fc1 hbb
   go_wp2_with fail
   refine hK.out _ _ HT2.out ?_;clear hK K';refine jP ?_;refine jN 4 fun K' hK=>?_
   go_simp;refine(BG _ (κ (Rd.below' N1.out Bw2.out Bw2.out.size))).mono ?_;rintro e w3 ⟨An,dn,Au,du,rfl,hcn,hcu,hbb,fn1,fu1⟩;have Bw3:=κ (CrdB.below_step Bw2.out hbb);have Uw3:=κ (CrdB.below_step Uw2.out hbb);have Cw3:=κ (Blk.below' Cw2.out hbb);have HT3:Hid (T61 w3):=⟨Cw3.out.cell 0,Cw3.out.cell 1,Cw3.out.cell 2,Cw3.out.cell 3,Cw3.out.cell 4,Cw3.out.cell 5,Cw3.out.cell 6⟩;have NN:=κ hcn;have NU:=κ hcu;have hb23:=κ hbb;replace NA:Hid (Nds w3 w3.heap.size A1 nd):=Rd.below' NA.out hb23.out hb23.out.size;replace NB:Hid (Ris w3 w3.heap.size B1 ac):=Rd.below' NB.out hb23.out hb23.out.size;replace NC:Hid (Smb w3 w3.heap.size C1 sy):=Rd.below' NC.out hb23.out hb23.out.size;clear hcn hcu hbb fn1 fu1
   go_wp2_with fail
   refine hK.out _ _ HT3.out ?_;clear hK K';refine jP ?_;refine jA 5 HT3.out ?_;have UA:=κ (β w3 (.cells (vQ (sN:Int) wi ra ta A1 nl c1 B1 al d1 C1 sl f1 none 0 0 An nl dn Au nl du 0 false) 97));have CA:=κ (Blk.below' Cw3.out UA.out);have HTA:Hid (T61 (w3.alloc (.cells (vQ (sN:Int) wi ra ta A1 nl c1 B1 al d1 C1 sl f1 none 0 0 An nl dn Au nl du 0 false) 97))):=⟨CA.out.cell 0,CA.out.cell 1,CA.out.cell 2,CA.out.cell 3,CA.out.cell 4,CA.out.cell 5,CA.out.cell 6⟩;refine jN 6 fun K' hK=>?_
   go_simp;refine hK.out _ _ HTA.out ?_;clear hK K';refine jP ?_;refine jA 7 HTA.out ?_;refine Δ ?_;have HMN:Hid (Mm w.heap.size (w3.alloc (.cells (vQ (sN:Int) wi ra ta A1 nl c1 B1 al d1 C1 sl f1 none 0 0 An nl dn Au nl du 0 false) 97)) w3.heap.size ⟨(sN:Int),wi,ra,ta,A1,B1,C1,nl,al,sl,c1,d1,f1,nd,ac,sy,none,0,0,[],An,Au,nl,nl,dn,du,nd,zeros nl,0,false⟩):=Mm_new NA.out NB.out NC.out NN.out NU.out L1.out L2.out L3.out L1.out (by rw[L1.out];exact List.length_replicate.symm) Uw3.out.size
   go_wp2_with fail
   go_meet;exact⟨w3.heap.size,A1,B1,C1,An,Au,c1,d1,f1,dn,du,rfl,HMN,CA,CrdB.below_step Uw3.out UA.out⟩
  case rest=>
   obtain⟨gM,A1,B1,C1,An,Au,c1,d1,f1,dn,du,rfl,M2,C3,U2⟩:=hcut
   rename World=>w2
   clear OC BG N1 R1 S1;obtain⟨i0,hi0,hz0,hz1,hz2⟩:=info_parts infoBk;obtain⟨k0,k1,k2,k3,k4,k5,k6⟩:=q7_of C3.out
   go_upto_region 6 with fail
   clear k0 k1 k2 k3 k4 k5 k6
   have CM:Hid (gC≠gM):=fun e=>by
    have h1:=C3.out;have h2:=M2.out.blk;rw[e]at h1;unfold Blk at h1 h2;rw[h1]at h2;injection h2 with h2
    injection h2 with _ h3 _
    revert h3
    decide
   go_loopg [21] sN (fun g9 s21 w'=> ∃(j:Nat) (Ab:Option Addr) (nb cb:Nat) (xs:List Bx),j+g9=sN∧s21= ι j∧Hid (nb=j)∧Hid (xs.map Bx.b=(List.range j).map (fun k:Nat=>beginF al (k:Int)))∧Hid (Mm w.heap.size w' gM ⟨(sN:Int),wi,ra,ta,A1,B1,C1,nl,al,sl,c1,d1,f1,nd,ac,sy,Ab,nb,cb,xs,An,Au,nl,nl,dn,du,nd,zeros nl,0,false⟩)∧Hid (Blk w' gC 40 (vC (sN:Int) wi ra ta A nl c B al d C sl f))∧Hid (Below w.heap.size w w'))
   case atStart=>exact⟨0,none,0,0,[],by omega,rfl,rfl,rfl,M2,C3,U2⟩
   case round=>
    clear M2 C3 U2;obtain⟨j,Ab,nb,cb,xs,hg0,rfl,HNB,HXB,Mr,Cr,Ur⟩:=hrel;by_cases hlt:j<sN
    ·obtain⟨g8,rfl⟩: ∃g8,gk=g8+1:=⟨gk-1,by omega⟩;have t0:decide ((j:Int)<(sN:Int))=true:=by simp;omega
     have hnb9:nb≤1000:=by have:=HNB.out;omega
     go_upto_region 8 with fail
     have BB:=bbegin_fresh (sN:Int) wi ra ta A B C nl al sl c d f (j:Int) wr.drew hal;unfold MadeBg at BB;rw[show bkA (some ⟨wr.drew.heap.size+1+1,0,none⟩) none al 0 (beginF al (j:Int))= .agg #[.int .i64 (j:Int),.int .i64 0,.slice (some ⟨wr.drew.heap.size+1+1,0,none⟩) al al,.slice none 0 0] from by simp[bkA,beginF]]at BB;have Md:=κ (Mm_below Mr.out (Below.drew ψ));have Cd:=κ (ε Cr.out);let T153:World→Prop:=fun w'=>w'.cell? (α gM 7)=some (.slice Ab nb cb)∧w'.cell? (α gC 0)=some (ι (sN:Int))∧w'.cell? (α gC 1)=some (ι wi)∧w'.cell? (α gC 2)=some (ι ra)∧w'.cell? (α gC 3)=some (ι ta)∧w'.cell? (α gC 4)=some (.slice A nl c)∧w'.cell? (α gC 5)=some (.slice B al d)∧w'.cell? (α gC 6)=some (.slice C sl f)
     have HT:Hid (T153 (wr.drew)):=⟨Md.out.blk.cell 7,Cd.out.cell 0,Cd.out.cell 1,Cd.out.cell 2,Cd.out.cell 3,Cd.out.cell 4,Cd.out.cell 5,Cd.out.cell 6⟩;have Ud:=κ (Below.drew Ur.out);have LTr:=κ (Mm_lt Md.out);refine Ω T153 [12] ?_;refine jA 0 HT.out ?_;refine jA 1 HT.out ?_;refine jA 2 HT.out ?_;refine jA 3 HT.out ?_;refine jB 4 HT.out ?_;refine jB 5 HT.out ?_;refine jA 6 HT.out ?_;refine jN 7 fun K' hK=>?_
     go_simp;refine BB.mono ?_;rintro e w4 ⟨rfl,hbm,hb4⟩;have M4:=κ (Mm_below Md.out hb4);have C4:=κ (Blk.below' Cd.out hb4);have U4:=κ (CrdB.below_step Ud.out hb4);have hb4s:Hid (wr.heap.size≤w4.heap.size):=hb4.size;have HT2:Hid (T153 w4):=⟨M4.out.blk.cell 7,C4.out.cell 0,C4.out.cell 1,C4.out.cell 2,C4.out.cell 3,C4.out.cell 4,C4.out.cell 5,C4.out.cell 6⟩;have BM:=κ hbm;clear hbm hb4
     go_wp2_with fail
     refine hK.out _ _ HT2.out ?_;clear hK K';refine jP ?_;have V5:=β w4 (.cells (vB (j:Int) 0 (some (α (wr.heap.size+1+1) 0)) al al none 0 0) 75);have M5:=κ (Mm_below M4.out V5);have C5:=κ (Blk.below' C4.out V5);have U5:=κ (CrdB.below_step U4.out V5);have HT5:Hid (T153 (w4.alloc (.cells (vB (j:Int) 0 (some (α (wr.heap.size+1+1) 0)) al al none 0 0) 75))):=⟨M5.out.blk.cell 7,C5.out.cell 0,C5.out.cell 1,C5.out.cell 2,C5.out.cell 3,C5.out.cell 4,C5.out.cell 5,C5.out.cell 6⟩;have R5:Hid (Rd (w4.alloc (.cells (vB (j:Int) 0 (some (α (wr.heap.size+1+1) 0)) al al none 0 0) 75)) (w4.alloc (.cells (vB (j:Int) 0 (some (α (wr.heap.size+1+1) 0)) al al none 0 0) 75)).heap.size (some (α w4.heap.size 0)) [ι (j:Int),ι 0,.slice (some (α (wr.heap.size+1+1) 0)) al al,.slice none 0 0]):=rd_new rfl;have B5:Hid (Bm (w4.alloc (.cells (vB (j:Int) 0 (some (α (wr.heap.size+1+1) 0)) al al none 0 0) 75)) (some (α (wr.heap.size+1+1) 0)) none (List.replicate al rc0) (beginF al (j:Int))):=BM.out.below V5;obtain⟨n6,hn6⟩:=ν (nb+1);have HN6:=κ hn6;have O5:=κ (ξ M5.out.row);have Z5:=U5.out.size;clear hn6 V5;refine jN 8 fun K' hK=>?_
     go_simp;refine hK.out _ _ HT5.out ?_;clear hK K';refine jP ?_;refine jN 9 fun K' hK=>?_
     refine step_appA O5 R5 HN6.out rfl _ _ _ rfl i0 (.agg #[ι 0,ι 0,.slice none 0 0,.slice none 0 0]) 64 Tryz.underlying95 hi0 hz0 hz1 hz2 rfl (by decide) rfl rfl rfl (by simp[Value.oneCell']) (by unfold maxLen;omega) (by omega) Z5 ?_;intro A6 c6 w6 hown6 hgr6 hob6;have K6:Hid (Blk w6 gM 97 (vQ (sN:Int) wi ra ta A1 nl c1 B1 al d1 C1 sl f1 Ab nb cb An nl dn Au nl du 0 false)):=blk_own_grown M5.out.blk M5.out.row (by decide) hgr6.out;have C6:=κ (blk_own_grown C5.out M5.out.row (by decide) hgr6.out);have U6:=κ (grown_below U5.out M5.out.row hgr6.out τ U5.out.size);have HT6:Hid (T153 w6):=⟨K6.out.cell 7,C6.out.cell 0,C6.out.cell 1,C6.out.cell 2,C6.out.cell 3,C6.out.cell 4,C6.out.cell 5,C6.out.cell 6⟩;have x7:=χ (K6.out.cell 7);have y7:=K6.out.thaw 7;refine hK.out _ _ HT6.out ?_;clear hK K';refine jP ?_;refine jA 10 HT6.out ?_;refine jA 11 HT6.out ?_;refine jV 12 fun K' hK=>?_
     go_simp;refine hK.out _ _ ?_;clear hK K';refine jP ?_;refine Δ ?_;have M7:=κ (ξ (Mm_push M5.out (x:=⟨some (α (wr.heap.size+1+1) 0),none,al,0,List.replicate al rc0,beginF al (j:Int)⟩) B5.out (FarX_new (base:=wr.heap.size) LTr.out.1 LTr.out.2 (Fb_begin _ al wr τ)) HN6.out (by rw[show bxV ⟨some (α (wr.heap.size+1+1) 0),none,al,0,List.replicate al rc0,beginF al (j:Int)⟩=[ι (j:Int),ι 0,.slice (some (α (wr.heap.size+1+1) 0)) al al,.slice none 0 0] from by simp[bxV,beginF]];exact hown6.out) hgr6.out hob6.out));have C7:Hid (Blk (w6.setCell (α gM 7) (.slice A6 n6 c6)) gC 40 (vC (sN:Int) wi ra ta A nl c B al d C sl f)):=far_st C6.out CM.out _;have U7:Hid (Below w.heap.size w (w6.setCell (α gM 7) (.slice A6 n6 c6))):=U6.out.setCell (p:=(α gM 7)) M5.out.gb _
     have HX7:Hid ((xs++[(⟨some (α (wr.heap.size+1+1) 0),none,al,0,List.replicate al rc0,beginF al (j:Int)⟩:Bx)]).map Bx.b=(List.range (j+1)).map (fun k:Nat=>beginF al (k:Int))):=by
      show _=_;rw[List.map_append,HXB.out,List.range_succ,List.map_append]
      rfl
     have HN7:Hid (n6=j+1):=by show _=_;rw[HN6.out,HNB.out]
     clear x7 y7 HT HT2 HT5 HT6 K6 C6 U6 M5 C5 U5 O5 R5 B5 hown6 hgr6 hob6 M4 C4 U4 BM Md Cd Ud BB Z5;generalize (w6.setCell (α gM 7) (.slice A6 n6 c6))=w7 at M7 C7 U7 ⊢
     go_wp2_with fail
     go_roundg g8
     case measure=>omega
     case rel=>exact⟨j+1,A6,n6,c6,_,by omega,by rw[Int.natCast_add];rfl,HN7,HX7,M7,C7,U7⟩
    ·have t0:decide ((j:Int)<(sN:Int))=false:=by simp;omega
     have hjn:j=sN:=by omega
     have hfin:MadeMd (sN:Int) wi ra ta nd ac sy w (.returned (.tuple #[.pointer (some (α gM 0)),ι 0])) wr:=by
      refine⟨Ur.out,fun h=>absurd HC0.out h,fun _=>⟨gM,⟨(sN:Int),wi,ra,ta,A1,B1,C1,nl,al,sl,c1,d1,f1,nd,ac,sy,Ab,nb,cb,xs,An,Au,nl,nl,dn,du,nd,zeros nl,0,false⟩,rfl,Mr.out,?_⟩⟩;unfold plO bgnP;simp only[HXB.out,hjn,Int.toNat_natCast,L1.out,L2.out]
     have HF:=κ hfin;clear hfin
     go_wp2_with fail
     exact bodyPost_ret (v:= .tuple #[.pointer (some (α gM 0)),ι 0]) (by simp[results,Tryz.results7,go_sem]) rfl HF.out
end Mdg
end Go.Proofs.YtfbajlcljfjbkaaGreat
