/- Texts side by side. -/
import Derived.Test.YtcccdikhfgpamaaGreatUfbh
set_option linter.unusedVariables false
set_option linter.unusedSimpArgs false
set_option maxRecDepth 100000
set_option maxHeartbeats 16000000
namespace Go.Proofs.YtcccdikhfgpamaaGreat
open Kap Abv Lax Go.ChangeShapes Go.WideShapes Go.ChangeAt Go.RowKit Mem Tre Ref3 Law3 Fix3 Cfg Crd CrdB CrdC Rr4 Bkp Bks Bkf Bkg Bcl Dlk Stk Apt Bko Bku Bka Bkc Bkq Rba Rbc Rbd Lat Rmp Rmr Mdn Mdo Mdk Bkj Mdf Mdb
namespace Rmg
open Mdp hiding Mm Mm_below Mm_set Mm_off Mm_ep Mm_cr Mm_book Mm_lt
open Mdz hiding Mz_of Mm_setz
open Mds hiding MadeDo madeDo_no
open Rul1 hiding below_step
open Bkw hiding infoN Bo_below Bo_grown
open Rbf (rbegin7_any)
open Mdg (bgnP)
theorem infoBr:(Tryz.prog.info? 122).map (fun i=>(i.zero,i.size,i.bytes))=some (some (.agg #[.int .i64 0,.int .i64 0,.slice none 0 0,.slice none 0 0]),4,64):=by kernel_rfl
def MadeStB(A:Option Addr)(l:List (Int×Int))(w:World)(e:Ending)(w':World):Prop:=
 ∃c1 A' c',e= .returned (.agg #[.slice A l.length c1,.slice A' l.length c'])∧Nds w' w'.heap.size A l∧Ris w' w'.heap.size A' (zeros l.length)∧Below w.heap.size w w'∧(∀a,A'=some a→w.heap.size≤a.block)
theorem rbegin_fresh(A:Option Addr)(c:Nat)(l:List (Int×Int))(w:World)(hl:Hid (Nds w w.heap.size A l))(hmax:(l.length:Int)≤1000000):
  Calls Tryz.prog 39 #[.slice A l.length c] w (MadeStB A l w):=by
 obtain⟨h,i,b,d,e⟩:=info_parts i64_info;have f:=fun(W:World)=>run_make (P:=Tryz.prog) W 112 2 h (ι 0) Tryz.underlying112 i b .i64 .i64 (l.length:Int) (l.length:Int) (by omega) (by omega) (by rw[e];omega) (by omega)
 simp only[Int.toNat_natCast,d,Nat.mul_one]at f
 go_enter Tryz.func39,Tryz.ntmps39
 go_wp2_with fail
 have j:Rd ((w.alloc (.cells (vS A l.length c (some (α (w.heap.size+1) 0)) l.length l.length) 114)).alloc (.cells (madeCells #[ι 0] l.length) 2)) ((w.alloc (.cells (vS A l.length c (some (α (w.heap.size+1) 0)) l.length l.length) 114)).alloc (.cells (madeCells #[ι 0] l.length) 2)).heap.size (some (α (w.heap.size+1) 0)) (ints (zeros l.length)):=by
  have:=Blk.fresh (w.alloc (.cells (vS A l.length c (some (α (w.heap.size+1) 0)) l.length l.length) 114)) 2 (madeCells #[ι 0] l.length);rw[World.size_alloc]at this;exact this.rd' (made_zeros _)
 have g:=γ w (.cells (vS A l.length c (some (α (w.heap.size+1) 0)) l.length l.length) 114) (.cells (madeCells #[ι 0] l.length) 2);exact bodyPost_ret (v:= .agg #[.slice A l.length c,.slice (some (α (w.heap.size+1) 0)) l.length l.length]) (by simp[results,Tryz.results39,go_sem]) rfl ⟨_,_,_,rfl,Rd.below' hl.o g g.size,j,g,fun a k=>by cases k;exact Nat.le_succ _⟩
def MadeRm(A B C:Option Addr)(sh wi ra ta:Int)(nd:List (Int×Int))(ac:List Int)(sy:List (Int×Int×Int×Nat))(w:World)(e:Ending)(w':World):Prop:=
 ∃g q,e= .returned (.pointer (some ⟨g,0,none⟩))∧Rm w.heap.size w' g q∧plO q=bgnP sh wi ra ta nd ac sy∧Cq q∧Below w.heap.size w w'∧ ∀z,z<w.heap.size→FarE z A (Mem.nds nd)→FarE z B (ints ac)→FarE z C (smbs sy)→Mz z g q
theorem cq_of{xs:List Bx}{n al:Nat}(h:xs.map Bx.b=(List.range n).map (fun k:Nat=>beginF al (k:Int))): ∀i,i<xs.length→(gX xs i).b.op.length≤(gX xs i).d:=by
 intro i a;have c:(gX xs i).b∈xs.map Bx.b:=List.mem_map.2 ⟨gX xs i,by unfold gX;rw[List.getD_eq_getElem?_getD,List.getElem?_eq_getElem a];exact List.getElem_mem a,rfl⟩;rw[h]at c;obtain⟨k,_,e⟩:=List.mem_map.1 c;rw[←e];exact Nat.zero_le _
theorem rmbegin_any(sN:Nat)(wi ra ta:Int)(A B C:Option Addr)(nl al sl c d f:Nat)(nd:List (Int×Int))(ac:List Int)(sy:List (Int×Int×Int×Nat))(w:World)(L1:Hid (nl=nd.length))(L2:Hid (al=ac.length))(L3:Hid (sl=sy.length))
  (hn:Hid (Nds w w.heap.size A nd))(ha:Hid (Ris w w.heap.size B ac))(hs:Hid (Smb w w.heap.size C sy))(m1:nl≤1000)(hal:al≤1000)(hsh:sN≤1000):
  Calls Tryz.prog 17 #[.agg #[.int .i64 (sN:Int),.int .i64 wi,.int .i64 ra,.int .i64 ta,.slice A nl c,.slice B al d,.slice C sl f]] w (MadeRm A B C (sN:Int) wi ra ta nd ac sy w):=by
 have U0:=κ (β w (.cells (vC (sN:Int) wi ra ta A nl c B al d C sl f) 31));have C0:=κ (Blk.fresh w 31 (vC (sN:Int) wi ra ta A nl c B al d C sl f));have N0:=θ hn.o U0.o;have R0:=η ha.o U0.o;have S0:Hid (Smb (w.alloc (.cells (vC (sN:Int) wi ra ta A nl c B al d C sl f) 31)) (w.alloc (.cells (vC (sN:Int) wi ra ta A nl c B al d C sl f) 31)).heap.size C sy):=Rd.below' hs.o U0.o U0.o.size
 go_enter Tryz.func17,Tryz.ntmps17
 go_upto_region 1 with fail
 obtain⟨gC,Z⟩:=ν w.heap.size;have ad:=κ (ζ Z C0.o);have aH:Hid (w.heap.size≤gC):=by show _≤_;omega
 simp only[←Z];clear Z C0;generalize (w.alloc (.cells (vC (sN:Int) wi ra ta A nl c B al d C sl f) 31))=w1 at U0 ad N0 R0 S0 ⊢;have BG:=fun W hn=>rbegin_fresh A c nd W hn (by rw[←L1.o];omega)
 unfold MadeStB at BG;rw[←L1.o]at BG
 go_cut [3] (fun sM wx=> ∃(h:Nat) (o:Option Addr) (q r:Nat),sM= .pointer (some (α h 0))∧Hid (Rm w.heap.size wx h ⟨(sN:Int),wi,ra,ta,A,B,C,nl,al,sl,c,d,f,nd,ac,sy,none,0,0,[],A,o,nl,nl,q,r,nd,zeros nl,0,false⟩)∧Hid (Blk wx gC 31 (vC (sN:Int) wi ra ta A nl c B al d C sl f))∧Hid (Below w.heap.size w wx)∧Hid (∀z,z<w.heap.size→FarE z A (Mem.nds nd)→FarE z B (ints ac)→FarE z C (smbs sy)→Mz z h ⟨(sN:Int),wi,ra,ta,A,B,C,nl,al,sl,c,d,f,nd,ac,sy,none,0,0,[],A,o,nl,nl,q,r,nd,zeros nl,0,false⟩))
 case first=>
  have g:=κ (ε ad.o);have Ud:=κ (Below.drew U0.o);have Bd:Hid (Below w1.heap.size w1 w1.drew):=Below.drew ψ;let I:World→Prop:=fun a=>a.cell? (α gC 0)=some (ι (sN:Int))∧a.cell? (α gC 1)=some (ι wi)∧a.cell? (α gC 2)=some (ι ra)∧a.cell? (α gC 3)=some (ι ta)∧a.cell? (α gC 4)=some (.slice A nl c)∧a.cell? (α gC 5)=some (.slice B al d)∧a.cell? (α gC 6)=some (.slice C sl f)
  have s:Hid (I (w1.drew)):=⟨g.o.cell 0,g.o.cell 1,g.o.cell 2,g.o.cell 3,g.o.cell 4,g.o.cell 5,g.o.cell 6⟩;refine Ω I [] ?_;refine jB 0 s.o ?_;refine jA 1 s.o ?_;refine jB 2 s.o ?_;refine jN 3 fun y l=>?_
  go_simp;refine(BG _ (κ (Rd.below' N0.o Bd.o Bd.o.size))).mono ?_;rintro e w3 ⟨q,o,r,rfl,ae,af,J,ar⟩;have B3:=κ (CrdB.below_step Bd.o J);have U3:=κ (CrdB.below_step Ud.o J);have t:=κ (Blk.below' g.o J);have ag:Hid (I w3):=⟨t.o.cell 0,t.o.cell 1,t.o.cell 2,t.o.cell 3,t.o.cell 4,t.o.cell 5,t.o.cell 6⟩;have NN:=κ ae;have NU:=κ af;clear ae af J
  go_wp2_with fail
  refine l.out _ _ ag.o ?_;clear l y;refine jP ?_;refine jA 4 ag.o ?_;have UA:=κ (β w3 (.cells (vQ (sN:Int) wi ra ta A nl c B al d C sl f none 0 0 A nl q o nl r 0 false) 118));have T:=κ (Blk.below' t.o UA.o);have ah:Hid (I (w3.alloc (.cells (vQ (sN:Int) wi ra ta A nl c B al d C sl f none 0 0 A nl q o nl r 0 false) 118))):=⟨T.o.cell 0,T.o.cell 1,T.o.cell 2,T.o.cell 3,T.o.cell 4,T.o.cell 5,T.o.cell 6⟩;refine jN 5 fun y l=>?_
  go_simp;refine l.out _ _ ah.o ?_;clear l y;refine jP ?_;refine jA 6 ah.o ?_;refine Δ ?_;have au:Hid (Rm w.heap.size (w3.alloc (.cells (vQ (sN:Int) wi ra ta A nl c B al d C sl f none 0 0 A nl q o nl r 0 false) 118)) w3.heap.size ⟨(sN:Int),wi,ra,ta,A,B,C,nl,al,sl,c,d,f,nd,ac,sy,none,0,0,[],A,o,nl,nl,q,r,nd,zeros nl,0,false⟩):=Rm_new (Rd.below' N0.o B3.o B3.o.size) (Rd.below' R0.o B3.o B3.o.size) (Rd.below' S0.o B3.o B3.o.size) NN.o NU.o L1.o L2.o L3.o L1.o (by rw[L1.o];exact List.length_replicate.symm) U3.o.size;have av:Hid (∀z,z<w.heap.size→FarE z A (Mem.nds nd)→FarE z B (ints ac)→FarE z C (smbs sy)→Mz z w3.heap.size ⟨(sN:Int),wi,ra,ta,A,B,C,nl,al,sl,c,d,f,nd,ac,sy,none,0,0,[],A,o,nl,nl,q,r,nd,zeros nl,0,false⟩):=fun z hz U K h3=>⟨by have:=U3.o.size;omega,U,K,h3,U,FarE_new (base:=w1.drew.heap.size) (by have:=Ud.o.size;omega) ar,fun i hi=>absurd hi (Nat.not_lt_zero _)⟩
  go_wp2_with fail
  go_meet;exact⟨w3.heap.size,o,q,r,rfl,au,T,CrdB.below_step U3.o UA.o,av⟩
 case rest=>
  obtain⟨h,o,q,r,rfl,M2,t,U2,ai⟩:=hcut
  rename World=>w2
  clear BG N0 R0 S0;obtain⟨i0,aw,ax,ay,az⟩:=info_parts infoBr
  have CM:Hid (gC≠h):=fun e=>by
   have U:=t.o;have K:=M2.o.blk;rw[e]at U;unfold Blk at U K;rw[U]at K;injection K with K
   injection K with _ h3 _
   revert h3
   decide
  go_wp2_with fail
  go_loopg [4] sN (fun g9 aA a=> ∃(j:Nat) (Ab:Option Addr) (L cb:Nat) (E:List Bx),j+g9=sN∧aA= ι j∧Hid (L=j)∧Hid (E.map Bx.b=(List.range j).map (fun k:Nat=>beginF al (k:Int)))∧Hid (Rm w.heap.size a h ⟨(sN:Int),wi,ra,ta,A,B,C,nl,al,sl,c,d,f,nd,ac,sy,Ab,L,cb,E,A,o,nl,nl,q,r,nd,zeros nl,0,false⟩)∧Hid (Blk a gC 31 (vC (sN:Int) wi ra ta A nl c B al d C sl f))∧Hid (Below w.heap.size w a)∧Hid (∀z,z<w.heap.size→FarE z A (Mem.nds nd)→FarE z B (ints ac)→FarE z C (smbs sy)→Mz z h ⟨(sN:Int),wi,ra,ta,A,B,C,nl,al,sl,c,d,f,nd,ac,sy,Ab,L,cb,E,A,o,nl,nl,q,r,nd,zeros nl,0,false⟩))
  case atStart=>exact⟨0,none,0,0,[],by omega,rfl,rfl,rfl,M2,t,U2,ai⟩
  case round=>
   clear M2 t U2 ai;obtain⟨j,Ab,L,cb,E,aI,rfl,aj,aa,Mr,Cr,Ur,ak⟩:=hrel;obtain⟨k0,k1,k2,k3,k4,k5,k6⟩:=q7_of Cr.o;by_cases hlt:j<sN
   ·obtain⟨g8,rfl⟩: ∃g8,gk=g8+1:=⟨gk-1,by omega⟩;have t0:decide ((j:Int)<(sN:Int))=true:=by simp;omega
    have aJ:L≤1000:=by have:=aj.o;omega
    go_upto_region 5 with fail
    clear k0 k1 k2 k3 k4 k5 k6;have BB:=rbegin7_any (sN:Int) wi ra ta A B C nl al sl c d f (j:Int) wr.drew hal;unfold Rbf.MadeBg at BB;rw[show bkA (some ⟨wr.drew.heap.size+1+1,0,none⟩) none al 0 (beginF al (j:Int))= .agg #[.int .i64 (j:Int),.int .i64 0,.slice (some ⟨wr.drew.heap.size+1+1,0,none⟩) al al,.slice none 0 0] from by simp[bkA,beginF]]at BB;have Md:=κ (Rm_below Mr.o (Below.drew ψ));have g:=κ (ε Cr.o);let F:World→Prop:=fun a=>a.cell? (α h 7)=some (.slice Ab L cb)∧a.cell? (α gC 0)=some (ι (sN:Int))∧a.cell? (α gC 1)=some (ι wi)∧a.cell? (α gC 2)=some (ι ra)∧a.cell? (α gC 3)=some (ι ta)∧a.cell? (α gC 4)=some (.slice A nl c)∧a.cell? (α gC 5)=some (.slice B al d)∧a.cell? (α gC 6)=some (.slice C sl f)
    have s:Hid (F (wr.drew)):=⟨Md.o.blk.cell 7,g.o.cell 0,g.o.cell 1,g.o.cell 2,g.o.cell 3,g.o.cell 4,g.o.cell 5,g.o.cell 6⟩;have Ud:=κ (Below.drew Ur.o);have am:=κ (Rm_lt Md.o);refine Ω F [12] ?_;refine jA 0 s.o ?_;refine jA 1 s.o ?_;refine jA 2 s.o ?_;refine jA 3 s.o ?_;refine jB 4 s.o ?_;refine jB 5 s.o ?_;refine jA 6 s.o ?_;refine jN 7 fun y l=>?_
    go_simp;refine BB.mono ?_;rintro e V ⟨rfl,an,G⟩;have M4:=κ (Rm_below Md.o G);have O:=κ (Blk.below' g.o G);have U4:=κ (CrdB.below_step Ud.o G);have aK:Hid (wr.heap.size≤V.heap.size):=G.size;have ao:Hid (F V):=⟨M4.o.blk.cell 7,O.o.cell 0,O.o.cell 1,O.o.cell 2,O.o.cell 3,O.o.cell 4,O.o.cell 5,O.o.cell 6⟩;have BM:=κ an;clear an G
    go_wp2_with fail
    refine l.out _ _ ao.o ?_;clear l y;refine jP ?_;have V5:=β V (.cells (vB (j:Int) 0 (some (α (wr.heap.size+1+1) 0)) al al none 0 0) 122);have P:=κ (Rm_below M4.o V5);have Q:=κ (Blk.below' O.o V5);have U5:=κ (CrdB.below_step U4.o V5);have ap:Hid (F (V.alloc (.cells (vB (j:Int) 0 (some (α (wr.heap.size+1+1) 0)) al al none 0 0) 122))):=⟨P.o.blk.cell 7,Q.o.cell 0,Q.o.cell 1,Q.o.cell 2,Q.o.cell 3,Q.o.cell 4,Q.o.cell 5,Q.o.cell 6⟩;have R5:Hid (Rd (V.alloc (.cells (vB (j:Int) 0 (some (α (wr.heap.size+1+1) 0)) al al none 0 0) 122)) (V.alloc (.cells (vB (j:Int) 0 (some (α (wr.heap.size+1+1) 0)) al al none 0 0) 122)).heap.size (some (α V.heap.size 0)) [ι (j:Int),ι 0,.slice (some (α (wr.heap.size+1+1) 0)) al al,.slice none 0 0]):=rd_new rfl;have B5:Hid (Bm (V.alloc (.cells (vB (j:Int) 0 (some (α (wr.heap.size+1+1) 0)) al al none 0 0) 122)) (some (α (wr.heap.size+1+1) 0)) none (List.replicate al rc0) (beginF al (j:Int))):=BM.o.below V5;obtain⟨n6,aq⟩:=ν (L+1);have ab:=κ aq;have O5:=κ (ξ P.o.row);have Z5:=U5.o.size;clear aq V5;refine jN 8 fun y l=>?_
    go_simp;refine l.out _ _ ap.o ?_;clear l y;refine jP ?_;refine jN 9 fun y l=>?_
    refine step_appA O5 R5 ab.o rfl _ _ _ rfl i0 (.agg #[ι 0,ι 0,.slice none 0 0,.slice none 0 0]) 64 Tryz.underlying116 aw ax ay az rfl (by decide) rfl rfl rfl (by simp[Value.oneCell']) (by unfold maxLen;omega) (by omega) Z5 ?_;intro A6 c6 w6 H n X;have K6:Hid (Blk w6 h 118 (vQ (sN:Int) wi ra ta A nl c B al d C sl f Ab L cb A nl q o nl r 0 false)):=blk_own_grown P.o.blk P.o.row (by decide) n.o;have R:=κ (blk_own_grown Q.o P.o.row (by decide) n.o);have U6:=κ (grown_below U5.o P.o.row n.o τ U5.o.size);have S:Hid (F w6):=⟨K6.o.cell 7,R.o.cell 0,R.o.cell 1,R.o.cell 2,R.o.cell 3,R.o.cell 4,R.o.cell 5,R.o.cell 6⟩;have x7:=χ (K6.o.cell 7);have y7:=K6.o.thaw 7;refine l.out _ _ S.o ?_;clear l y;refine jP ?_;refine jA 10 S.o ?_;refine jA 11 S.o ?_;refine jV 12 fun y l=>?_
    go_simp;refine l.out _ _ ?_;clear l y;refine jP ?_;refine Δ ?_;have M7:=κ (ξ (Rm_push P.o (x:=⟨some (α (wr.heap.size+1+1) 0),none,al,0,List.replicate al rc0,beginF al (j:Int)⟩) B5.o (FarX_new (base:=wr.heap.size) am.o.1 am.o.2 (Fb_begin _ al wr τ)) ab.o (by rw[show bxV ⟨some (α (wr.heap.size+1+1) 0),none,al,0,List.replicate al rc0,beginF al (j:Int)⟩=[ι (j:Int),ι 0,.slice (some (α (wr.heap.size+1+1) 0)) al al,.slice none 0 0] from by simp[bxV,beginF]];exact H.o) n.o X.o));have C7:Hid (Blk (w6.setCell (α h 7) (.slice A6 n6 c6)) gC 31 (vC (sN:Int) wi ra ta A nl c B al d C sl f)):=far_st R.o CM.o _;have U7:Hid (Below w.heap.size w (w6.setCell (α h 7) (.slice A6 n6 c6))):=U6.o.setCell (p:=(α h 7)) P.o.gb _
    have aB:Hid ((E++[(⟨some (α (wr.heap.size+1+1) 0),none,al,0,List.replicate al rc0,beginF al (j:Int)⟩:Bx)]).map Bx.b=(List.range (j+1)).map (fun k:Nat=>beginF al (k:Int))):=by
     show _=_;rw[List.map_append,aa.o,List.range_succ,List.map_append]
     rfl
    have aC:Hid (∀z,z<w.heap.size→FarE z A (Mem.nds nd)→FarE z B (ints ac)→FarE z C (smbs sy)→Mz z h ⟨(sN:Int),wi,ra,ta,A,B,C,nl,al,sl,c,d,f,nd,ac,sy,A6,n6,c6,(E++[⟨some (α (wr.heap.size+1+1) 0),none,al,0,List.replicate al rc0,beginF al (j:Int)⟩]),A,o,nl,nl,q,r,nd,zeros nl,0,false⟩):=fun z hz U K h3=>by
     have m:=ak.o z hz U K h3;have aD:z<wr.heap.size:=by have:=Ur.o.size;omega
     refine⟨m.ne,m.z1,m.z2,m.z3,m.z4,m.z5,fun i hi=>?_⟩;have aE:i<E.length+1:=by simpa using hi
     show FzB z (gX (E++[(⟨some ⟨wr.heap.size+1+1,0,none⟩,none,al,0,List.replicate al rc0,beginF al (j:Int)⟩:Bx)]) i);rw[gX_snoc _ _ _ aE];by_cases hx:i=E.length
     ·rw[if_pos hx];exact FzB_new (base:=wr.heap.size) aD (Fb_begin _ al wr τ)
     ·rw[if_neg hx];exact m.zx i (by show i<E.length;omega)
    have aF:Hid (n6=j+1):=by show _=_;rw[ab.o,aj.o]
    clear x7 y7 s ao ap S K6 R U6 P Q U5 O5 R5 B5 H n X M4 O U4 BM Md g Ud BB Z5;generalize (w6.setCell (α h 7) (.slice A6 n6 c6))=w7 at M7 C7 U7 ⊢;have aL:IntKind.i64.wrap ((j:Int)+1)=(j:Int)+1:=by rw[IntKind.wrap_i64];omega
    go_wp2_with fail
    go_roundg g8
    case measure=>omega
    case rel=>exact⟨j+1,A6,n6,c6,_,by omega,by rw[Int.natCast_add];rfl,aF,aB,M7,C7,U7,aC⟩
   ·have t0:decide ((j:Int)<(sN:Int))=false:=by simp;omega
    have aG:j=sN:=by omega
    have Y:MadeRm A B C (sN:Int) wi ra ta nd ac sy w (.returned (.pointer (some (α h 0)))) wr:=by
     refine⟨h,⟨(sN:Int),wi,ra,ta,A,B,C,nl,al,sl,c,d,f,nd,ac,sy,Ab,L,cb,E,A,o,nl,nl,q,r,nd,zeros nl,0,false⟩,rfl,Mr.o,?_,cq_of aa.o,Ur.o,ak.o⟩;unfold plO bgnP;simp only[aa.o,aG,Int.toNat_natCast,L1.o,L2.o]
    have HF:=κ Y;clear Y
    go_wp2_with fail
    exact bodyPost_ret (v:= .pointer (some (α h 0))) (by simp[results,Tryz.results17,go_sem]) rfl HF.o
end Rmg
end Go.Proofs.YtcccdikhfgpamaaGreat
