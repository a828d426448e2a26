/- Texts side by side. -/
import Derived.Test.YtcccdikhfgpamaaGreatUfbu
set_option linter.unusedVariables false
set_option linter.unusedSimpArgs false
set_option maxRecDepth 100000
set_option maxHeartbeats 16000000
namespace Go.Proofs.YtcccdikhfgpamaaGreat
open Kap Abv Lax Go.ChangeShapes Go.WideShapes Go.ChangeAt Go.RowKit Mem Tre Ref3 Law3 Fix3 Cfg Crd CrdB CrdC Rr4 Cfr Bkp Bks Bkf Bcl Dlk Stk Apt Bko Bku Bka Bkc Bkq Bkj Mdc Mdp Mdz Mds Mdb Mdf Lat
namespace Mdg
open Rul1 hiding below_step
open Mdo hiding gB
variable {ra sh ta wi:Int} {nd:List (Int×Int)} {sy:List (Int×Int×Int×Nat)} {ac:List Int}
theorem infoBk:(Tryz.prog.info? 181).map (fun i=>(i.zero,i.size,i.bytes))=some (some (.agg #[.int .i64 0,.int .i64 0,.slice none 0 0,.slice none 0 0]),4,64):=by kernel_rfl
theorem q7_of{W:World}{g:Nat}{te:TypeId}{v0 v1 v2 v3 v4 v5 v6:Value}(hk:Blk W g te #[v0,v1,v2,v3,v4,v5,v6]):W.cell? ⟨g,0,none⟩=some v0∧W.cell? ⟨g,1,none⟩=some v1∧W.cell? ⟨g,2,none⟩=some v2∧W.cell? ⟨g,3,none⟩=some v3∧W.cell? ⟨g,4,none⟩=some v4∧W.cell? ⟨g,5,none⟩=some v5∧W.cell? ⟨g,6,none⟩=some v6:=⟨hk.cell 0,hk.cell 1,hk.cell 2,hk.cell 3,hk.cell 4,hk.cell 5,hk.cell 6⟩
def bgnP(sh wi ra ta:Int)(nd:List (Int×Int))(ac:List Int)(sy:List (Int×Int×Int×Nat)):Pm:=
 ⟨sh,wi,ra,ta,nd,ac,sy,(List.range sh.toNat).map (fun k:Nat=>beginF ac.length (k:Int)),nd,zeros nd.length,0,false⟩
def MadeMd(sh wi ra ta:Int)(nd:List (Int×Int))(ac:List Int)(sy:List (Int×Int×Int×Nat))(w:World)(e:Ending)(w':World):Prop:=
 Below w.heap.size w w'∧(cfgF sh wi ra ta nd ac sy≠0→e= .returned (.tuple #[.pointer none,.int .i64 (cfgF sh wi ra ta nd ac sy)]))∧
 (cfgF sh wi ra ta nd ac sy=0→ ∃g q,e= .returned (.tuple #[.pointer (some ⟨g,0,none⟩),.int .i64 0])∧Mm w.heap.size w' g q∧plO q=bgnP sh wi ra ta nd ac sy)
theorem Mm_new{base:Nat}{w:World}{A1 B1 C1 An Au:Option Addr}{nl al sl c1 d1 f1 n1 n2 dn du:Nat}{cl:List (Int×Int)}{cu:List Int}(hn:Nds w w.heap.size A1 nd)(ha:Ris w w.heap.size B1 ac)(hs:Smb w w.heap.size C1 sy)(hcn:Nds w w.heap.size An cl)(hcu:Ris w w.heap.size Au cu)
  (l1:nl=nd.length)(l2:al=ac.length)(l3:sl=sy.length)(l5:n1=cl.length)(l6:n2=cu.length)(hb:base≤w.heap.size):
  Mm base (w.alloc (.cells #[.int .i64 sh,.int .i64 wi,.int .i64 ra,.int .i64 ta,.slice A1 nl c1,.slice B1 al d1,.slice C1 sl f1,.slice none 0 0,.slice An n1 dn,.slice Au n2 du,.int .i64 0,.bool false] 144)) w.heap.size ⟨sh,wi,ra,ta,A1,B1,C1,nl,al,sl,c1,d1,f1,nd,ac,sy,none,0,0,[],An,Au,n1,n2,dn,du,cl,cu,0,false⟩:=by
 have U:=β w (.cells (vQ sh wi ra ta A1 nl c1 B1 al d1 C1 sl f1 none 0 0 An n1 dn Au n2 du 0 false) 144);have f: ∀{X:Option Addr} {ys:List Value},Rd w w.heap.size X ys→Far w.heap.size none X ys:=fun h=>Far_of h (.inl τ) (fun b hb=>by cases hb)
 exact⟨Blk.fresh _ _ _,World.ownsRow_nil _ _ _ _,hb,l1,l2,l3,rfl,l5,l6,Rd.below' hn U U.size,Rd.below' ha U U.size,Rd.below' hs U U.size,Rd.below' hcn U U.size,Rd.below' hcu U U.size,fun i a=>absurd a (Nat.not_lt_zero _),f hn,f ha,f hs,f hcn,f hcu,fun i a=>absurd a (Nat.not_lt_zero _)⟩
theorem cfg_ok(h:cfgF sh wi ra ta nd ac sy=0):
  sizB sh wi ra ta=true∧(chk nd).1=0∧1≤ac.length∧ac.length≤32∧accB nd.length ac=true∧1≤sy.length∧sy.length≤16∧tabB sy=true:=by
 cases h1:sizB sh wi ra ta with
 |false=>rw[cfgF_1 h1]at h;cases h
 |true=>
  by_cases h2:(chk nd).1=0
  ·by_cases h3:ac.length=0∨32<ac.length
   ·rw[cfgF_3 h1 h2 h3]at h;cases h
   ·cases h4:accB nd.length ac with
    |false=>rw[cfgF_4 h1 h2 h3 h4]at h;cases h
    |true=>
     by_cases h5:sy.length=0∨16<sy.length
     ·rw[cfgF_5 h1 h2 h3 h4 h5]at h;cases h
     ·cases h6:tabB sy with
      |false=>rw[cfgF_6 h1 h2 h3 h4 h5 h6]at h;cases h
      |true=>exact⟨rfl,h2,by omega,by omega,rfl,by omega,by omega,rfl⟩
  ·rw[cfgF_2 h1 h2]at h;exact absurd h h2
theorem siz_ok(h:sizB sh wi ra ta=true):1≤sh∧sh≤4∧0≤wi∧wi≤16∧1≤ra∧ra≤1000∧1≤ta∧ta≤64:=by
 unfold sizB btwB at h;simp only[Bool.and_eq_true,decide_eq_true_eq]at h;omega
theorem mbegin_any(sh wi ra ta:Int)(A B C:Option Addr)(nl al sl c d f:Nat)(nd:List (Int×Int))(ac:List Int)(sy:List (Int×Int×Int×Nat))(w:World)(L1:Hid (nl=nd.length))(L2:Hid (al=ac.length))(L3:Hid (sl=sy.length))
  (hn:Hid (Nds w w.heap.size A nd))(ha:Hid (Ris w w.heap.size B ac))(hs:Hid (Smb w w.heap.size C sy))(hw:Hid (WfN nd))(m1:nl≤100000)(m2:al≤100000)(m3:sl≤100000):
  Calls Tryz.prog 48 #[.agg #[.int .i64 sh,.int .i64 wi,.int .i64 ra,.int .i64 ta,.slice A nl c,.slice B al d,.slice C sl f]] w (MadeMd sh wi ra ta nd ac sy w):=by
 have U0:=κ (β w (.cells (vC sh wi ra ta A nl c B al d C sl f) 43));have C0:=κ (Blk.fresh w 43 (vC sh wi ra ta A nl c B al d C sl f));have N0:=θ hn.o U0.o;have R0:=η ha.o U0.o;have S0:Hid (Smb (w.alloc (.cells (vC sh wi ra ta A nl c B al d C sl f) 43)) (w.alloc (.cells (vC sh wi ra ta A nl c B al d C sl f) 43)).heap.size C sy):=Rd.below' hs.o U0.o U0.o.size
 go_enter Tryz.func48,Tryz.ntmps48
 go_upto_region 1 with fail
 obtain⟨gC,ae⟩:=ν w.heap.size;have Y:=κ (ζ ae C0.o);have aW:Hid (w.heap.size≤gC):=by show _≤_;omega
 simp only[←ae];clear ae C0;generalize (w.alloc (.cells (vC sh wi ra ta A nl c B al d C sl f) 43))=w0 at U0 Y N0 R0 S0 ⊢;have CK:=check5_any sh wi ra ta A B C c d f nd ac sy w0 N0 R0 S0 hw (by rw[←L1.o];omega) (by rw[←L2.o];omega) (by rw[←L3.o];omega);obtain⟨cc,af⟩:=ν (cfgF sh wi ra ta nd ac sy);rw[←af,←L1.o,←L2.o,←L3.o]at CK;have J:=κ af;clear af;obtain⟨k0,k1,k2,k3,k4,k5,k6⟩:=q7_of Y.o
 go_wp2_with fail
 refine CK.mono ?_;rintro e w1 ⟨rfl,t⟩;have U1:=κ (CrdB.below_step U0.o t);have C2:=κ (Blk.below' Y.o t);have N1:=θ N0.o t;have R1:=η R0.o t;have S1:Hid (Smb w1 w1.heap.size C sy):=Rd.below' S0.o t t.size;clear t k0 k1 k2 k3 k4 k5 k6 N0 R0 S0 Y U0 CK;by_cases hc0:cc=0
 case neg=>
  have t1:(cc != 0)=true:=by simp[hc0]
  have n:MadeMd sh wi ra ta nd ac sy w (.returned (.tuple #[.pointer none,ι cc])) w1:=⟨U1.o,fun _=>by rw[J.o],fun h=>absurd (J.o.trans h) hc0⟩;have HF:=κ n;clear n
  go_wp2_with fail
  exact bodyPost_ret (v:= .tuple #[.pointer none,ι cc]) (by simp[results,Tryz.results48,go_sem]) rfl HF.o
 case pos=>
  have t1:(cc != 0)=false:=by simp[hc0]
  obtain⟨ai,az,Z,aA,aB,aa,aC,aD⟩:=cfg_ok (J.o.symm.trans hc0);obtain⟨z1,z2,z3,z4,z5,z6,z7,z8⟩:=siz_ok ai;have aE:al≤1000:=by rw[L2.o];omega
  obtain⟨a,aF⟩: ∃k:Nat,sh=k:=⟨sh.toNat,by omega⟩;subst aF;have aG:=κ (J.o.symm.trans hc0);clear ai az Z aA aB aa aC aD hc0 J z3 z4 z5 z6 z7 z8
  go_upto_region 4 with fail
  have OC:=fun W hn ha hs=>owncfg_any (a:Int) wi ra ta A B C nl al sl c d f nd ac sy W L1 L2 L3 hn ha hs m1 m2 m3
  have BG:=fun W hn=>begin_fresh A c nd W hn (by rw[←L1.o];omega)
  unfold MadeStF at BG;rw[show(zeros nd.length).length=nd.length from List.length_replicate]at BG;rw[←L1.o]at BG
  go_cut [5] (fun sM wx=> ∃(y:Nat) (E F G K L:Option Addr) (O P Q R S:Nat),sM= .pointer (some (α y 0))∧Hid (Mm w.heap.size wx y ⟨(a:Int),wi,ra,ta,E,F,G,nl,al,sl,O,P,Q,nd,ac,sy,none,0,0,[],K,L,nl,nl,R,S,nd,zeros nl,0,false⟩)∧Hid (Blk wx gC 43 (vC (a:Int) wi ra ta A nl c B al d C sl f))∧Hid (Below w.heap.size w wx))
  case first=>
   let T:World→Prop:=fun i=>i.cell? (α gC 0)=some (ι (a:Int))∧i.cell? (α gC 1)=some (ι wi)∧i.cell? (α gC 2)=some (ι ra)∧i.cell? (α gC 3)=some (ι ta)∧i.cell? (α gC 4)=some (.slice A nl c)∧i.cell? (α gC 5)=some (.slice B al d)∧i.cell? (α gC 6)=some (.slice C sl f)
   have H:Hid (T (w1.drew)):=⟨C2.o.cell 0,C2.o.cell 1,C2.o.cell 2,C2.o.cell 3,C2.o.cell 4,C2.o.cell 5,C2.o.cell 6⟩;have U:=κ (ε C2.o);have Ud:=κ (Below.drew U1.o);have Bd:Hid (Below w1.heap.size w1 w1.drew):=Below.drew ψ;refine Ω T [] ?_;refine jB 0 H.o ?_;refine jA 2 H.o ?_;refine jB 3 H.o ?_;refine jN 1 fun z l=>?_
   go_simp;refine(OC _ (κ (Rd.below' N1.o Bd.o Bd.o.size)) (κ (Rd.below' R1.o Bd.o Bd.o.size)) (κ (Rd.below' S1.o Bd.o Bd.o.size))).mono ?_;rintro e w2 ⟨E,F,G,O,P,Q,rfl,aj,Z,aa,aH,aI,aJ,g⟩;have ag:=κ (CrdB.below_step Bd.o g);have aK:=κ (CrdB.below_step Ud.o g);have o:=κ (Blk.below' U.o g);have ab:Hid (T w2):=⟨o.o.cell 0,o.o.cell 1,o.o.cell 2,o.o.cell 3,o.o.cell 4,o.o.cell 5,o.o.cell 6⟩;have NA:=κ aj;have NB:=κ Z;have NC:=κ aa;clear aj Z aa aH aI aJ g
   go_wp2_with fail
   refine l.out _ _ ab.o ?_;clear l z;refine jP ?_;refine jN 4 fun z l=>?_
   go_simp;refine(BG _ (κ (Rd.below' N1.o ag.o ag.o.size))).mono ?_;rintro e I ⟨K,R,L,S,rfl,ak,am,g,aL,aM⟩;have aX:=κ (CrdB.below_step ag.o g);have an:=κ (CrdB.below_step aK.o g);have q:=κ (Blk.below' o.o g);have ao:Hid (T I):=⟨q.o.cell 0,q.o.cell 1,q.o.cell 2,q.o.cell 3,q.o.cell 4,q.o.cell 5,q.o.cell 6⟩;have NN:=κ ak;have NU:=κ am;have m:=κ g;replace NA:Hid (Nds I I.heap.size E nd):=Rd.below' NA.o m.o m.o.size;replace NB:Hid (Ris I I.heap.size F ac):=Rd.below' NB.o m.o m.o.size;replace NC:Hid (Smb I I.heap.size G sy):=Rd.below' NC.o m.o m.o.size;clear ak am g aL aM
   go_wp2_with fail
   refine l.out _ _ ao.o ?_;clear l z;refine jP ?_;refine jA 5 ao.o ?_;have UA:=κ (β I (.cells (vQ (a:Int) wi ra ta E nl O F al P G sl Q none 0 0 K nl R L nl S 0 false) 144));have CA:=κ (Blk.below' q.o UA.o);have ap:Hid (T (I.alloc (.cells (vQ (a:Int) wi ra ta E nl O F al P G sl Q none 0 0 K nl R L nl S 0 false) 144))):=⟨CA.o.cell 0,CA.o.cell 1,CA.o.cell 2,CA.o.cell 3,CA.o.cell 4,CA.o.cell 5,CA.o.cell 6⟩;refine jN 6 fun z l=>?_
   go_simp;refine l.out _ _ ap.o ?_;clear l z;refine jP ?_;refine jA 7 ap.o ?_;refine Δ ?_;have aN:Hid (Mm w.heap.size (I.alloc (.cells (vQ (a:Int) wi ra ta E nl O F al P G sl Q none 0 0 K nl R L nl S 0 false) 144)) I.heap.size ⟨(a:Int),wi,ra,ta,E,F,G,nl,al,sl,O,P,Q,nd,ac,sy,none,0,0,[],K,L,nl,nl,R,S,nd,zeros nl,0,false⟩):=Mm_new NA.o NB.o NC.o NN.o NU.o L1.o L2.o L3.o L1.o (by rw[L1.o];exact List.length_replicate.symm) an.o.size
   go_wp2_with fail
   go_meet;exact⟨I.heap.size,E,F,G,K,L,O,P,Q,R,S,rfl,aN,CA,CrdB.below_step an.o UA.o⟩
  case rest=>
   obtain⟨y,E,F,G,K,L,O,P,Q,R,S,rfl,M2,C3,U2⟩:=hcut
   rename World=>w2
   clear OC BG N1 R1 S1;obtain⟨i0,aO,aP,aQ,aR⟩:=info_parts infoBk;obtain⟨k0,k1,k2,k3,k4,k5,k6⟩:=q7_of C3.o
   go_upto_region 6 with fail
   clear k0 k1 k2 k3 k4 k5 k6
   have CM:Hid (gC≠y):=fun e=>by
    have h1:=C3.o;have h2:=M2.o.blk;rw[e]at h1;unfold Blk at h1 h2;rw[h1]at h2;injection h2 with h2
    injection h2 with _ h3 _
    revert h3
    decide
   go_loopg [21] a (fun g9 aS i=> ∃(j:Nat) (Ab:Option Addr) (nb cb:Nat) (xs:List Bx),j+g9=a∧aS= ι j∧Hid (nb=j)∧Hid (xs.map Bx.b=(List.range j).map (fun k:Nat=>beginF al (k:Int)))∧Hid (Mm w.heap.size i y ⟨(a:Int),wi,ra,ta,E,F,G,nl,al,sl,O,P,Q,nd,ac,sy,Ab,nb,cb,xs,K,L,nl,nl,R,S,nd,zeros nl,0,false⟩)∧Hid (Blk i gC 43 (vC (a:Int) wi ra ta A nl c B al d C sl f))∧Hid (Below w.heap.size w i))
   case atStart=>exact⟨0,none,0,0,[],by omega,rfl,rfl,rfl,M2,C3,U2⟩
   case round=>
    clear M2 C3 U2;obtain⟨j,Ab,nb,cb,xs,aY,rfl,aq,ar,Mr,Cr,Ur⟩:=hrel;by_cases hlt:j<a
    ·obtain⟨g8,rfl⟩: ∃g8,gk=g8+1:=⟨gk-1,by omega⟩;have t0:decide ((j:Int)<(a:Int))=true:=by simp;omega
     have aZ:nb≤1000:=by have:=aq.o;omega
     go_upto_region 8 with fail
     have BB:=bbegin_fresh (a:Int) wi ra ta A B C nl al sl c d f (j:Int) wr.drew aE;unfold MadeBg at BB;rw[show bkA (some ⟨wr.drew.heap.size+1+1,0,none⟩) none al 0 (beginF al (j:Int))= .agg #[.int .i64 (j:Int),.int .i64 0,.slice (some ⟨wr.drew.heap.size+1+1,0,none⟩) al al,.slice none 0 0] from by simp[bkA,beginF]]at BB;have Md:=κ (Mm_below Mr.o (Below.drew ψ));have U:=κ (ε Cr.o);let r:World→Prop:=fun i=>i.cell? (α y 7)=some (.slice Ab nb cb)∧i.cell? (α gC 0)=some (ι (a:Int))∧i.cell? (α gC 1)=some (ι wi)∧i.cell? (α gC 2)=some (ι ra)∧i.cell? (α gC 3)=some (ι ta)∧i.cell? (α gC 4)=some (.slice A nl c)∧i.cell? (α gC 5)=some (.slice B al d)∧i.cell? (α gC 6)=some (.slice C sl f)
     have H:Hid (r (wr.drew)):=⟨Md.o.blk.cell 7,U.o.cell 0,U.o.cell 1,U.o.cell 2,U.o.cell 3,U.o.cell 4,U.o.cell 5,U.o.cell 6⟩;have Ud:=κ (Below.drew Ur.o);have au:=κ (Mm_lt Md.o);refine Ω r [12] ?_;refine jA 0 H.o ?_;refine jA 1 H.o ?_;refine jA 2 H.o ?_;refine jA 3 H.o ?_;refine jB 4 H.o ?_;refine jB 5 H.o ?_;refine jA 6 H.o ?_;refine jN 7 fun z l=>?_
     go_simp;refine BB.mono ?_;rintro e w4 ⟨rfl,av,V⟩;have M4:=κ (Mm_below Md.o V);have C4:=κ (Blk.below' U.o V);have U4:=κ (CrdB.below_step Ud.o V);have a0:Hid (wr.heap.size≤w4.heap.size):=V.size;have ab:Hid (r w4):=⟨M4.o.blk.cell 7,C4.o.cell 0,C4.o.cell 1,C4.o.cell 2,C4.o.cell 3,C4.o.cell 4,C4.o.cell 5,C4.o.cell 6⟩;have BM:=κ av;clear av V
     go_wp2_with fail
     refine l.out _ _ ab.o ?_;clear l z;refine jP ?_;have V5:=β w4 (.cells (vB (j:Int) 0 (some (α (wr.heap.size+1+1) 0)) al al none 0 0) 181);have M5:=κ (Mm_below M4.o V5);have C5:=κ (Blk.below' C4.o V5);have U5:=κ (CrdB.below_step U4.o V5);have aw:Hid (r (w4.alloc (.cells (vB (j:Int) 0 (some (α (wr.heap.size+1+1) 0)) al al none 0 0) 181))):=⟨M5.o.blk.cell 7,C5.o.cell 0,C5.o.cell 1,C5.o.cell 2,C5.o.cell 3,C5.o.cell 4,C5.o.cell 5,C5.o.cell 6⟩;have R5:Hid (Rd (w4.alloc (.cells (vB (j:Int) 0 (some (α (wr.heap.size+1+1) 0)) al al none 0 0) 181)) (w4.alloc (.cells (vB (j:Int) 0 (some (α (wr.heap.size+1+1) 0)) al al none 0 0) 181)).heap.size (some (α w4.heap.size 0)) [ι (j:Int),ι 0,.slice (some (α (wr.heap.size+1+1) 0)) al al,.slice none 0 0]):=rd_new rfl;have B5:Hid (Bm (w4.alloc (.cells (vB (j:Int) 0 (some (α (wr.heap.size+1+1) 0)) al al none 0 0) 181)) (some (α (wr.heap.size+1+1) 0)) none (List.replicate al rc0) (beginF al (j:Int))):=BM.o.below V5;obtain⟨n6,ax⟩:=ν (nb+1);have ah:=κ ax;have O5:=κ (ξ M5.o.row);have Z5:=U5.o.size;clear ax V5;refine jN 8 fun z l=>?_
     go_simp;refine l.out _ _ aw.o ?_;clear l z;refine jP ?_;refine jN 9 fun z l=>?_
     refine step_appA O5 R5 ah.o rfl _ _ _ rfl i0 (.agg #[ι 0,ι 0,.slice none 0 0,.slice none 0 0]) 64 Tryz.underlying140 aO aP aQ aR rfl (by decide) rfl rfl rfl (by simp[Value.oneCell']) (by unfold maxLen;omega) (by omega) Z5 ?_;intro A6 c6 w6 X s ay;have K6:Hid (Blk w6 y 144 (vQ (a:Int) wi ra ta E nl O F al P G sl Q Ab nb cb K nl R L nl S 0 false)):=blk_own_grown M5.o.blk M5.o.row (by decide) s.o;have C6:=κ (blk_own_grown C5.o M5.o.row (by decide) s.o);have U6:=κ (grown_below U5.o M5.o.row s.o τ U5.o.size);have ad:Hid (r w6):=⟨K6.o.cell 7,C6.o.cell 0,C6.o.cell 1,C6.o.cell 2,C6.o.cell 3,C6.o.cell 4,C6.o.cell 5,C6.o.cell 6⟩;have x7:=χ (K6.o.cell 7);have y7:=K6.o.thaw 7;refine l.out _ _ ad.o ?_;clear l z;refine jP ?_;refine jA 10 ad.o ?_;refine jA 11 ad.o ?_;refine jV 12 fun z l=>?_
     go_simp;refine l.out _ _ ?_;clear l z;refine jP ?_;refine Δ ?_;have M7:=κ (ξ (Mm_push M5.o (x:=⟨some (α (wr.heap.size+1+1) 0),none,al,0,List.replicate al rc0,beginF al (j:Int)⟩) B5.o (FarX_new (base:=wr.heap.size) au.o.1 au.o.2 (Fb_begin _ al wr τ)) ah.o (by rw[show bxV ⟨some (α (wr.heap.size+1+1) 0),none,al,0,List.replicate al rc0,beginF al (j:Int)⟩=[ι (j:Int),ι 0,.slice (some (α (wr.heap.size+1+1) 0)) al al,.slice none 0 0] from by simp[bxV,beginF]];exact X.o) s.o ay.o));have C7:Hid (Blk (w6.setCell (α y 7) (.slice A6 n6 c6)) gC 43 (vC (a:Int) wi ra ta A nl c B al d C sl f)):=far_st C6.o CM.o _;have U7:Hid (Below w.heap.size w (w6.setCell (α y 7) (.slice A6 n6 c6))):=U6.o.setCell (p:=(α y 7)) M5.o.gb _
     have aT:Hid ((xs++[(⟨some (α (wr.heap.size+1+1) 0),none,al,0,List.replicate al rc0,beginF al (j:Int)⟩:Bx)]).map Bx.b=(List.range (j+1)).map (fun k:Nat=>beginF al (k:Int))):=by
      show _=_;rw[List.map_append,ar.o,List.range_succ,List.map_append]
      rfl
     have aU:Hid (n6=j+1):=by show _=_;rw[ah.o,aq.o]
     clear x7 y7 H ab aw ad K6 C6 U6 M5 C5 U5 O5 R5 B5 X s ay M4 C4 U4 BM Md U Ud BB Z5;generalize (w6.setCell (α y 7) (.slice A6 n6 c6))=w7 at M7 C7 U7 ⊢
     go_wp2_with fail
     go_roundg g8
     case measure=>omega
     case rel=>exact⟨j+1,A6,n6,c6,_,by omega,by rw[Int.natCast_add];rfl,aU,aT,M7,C7,U7⟩
    ·have t0:decide ((j:Int)<(a:Int))=false:=by simp;omega
     have aV:j=a:=by omega
     have n:MadeMd (a:Int) wi ra ta nd ac sy w (.returned (.tuple #[.pointer (some (α y 0)),ι 0])) wr:=by
      refine⟨Ur.o,fun h=>absurd aG.o h,fun _=>⟨y,⟨(a:Int),wi,ra,ta,E,F,G,nl,al,sl,O,P,Q,nd,ac,sy,Ab,nb,cb,xs,K,L,nl,nl,R,S,nd,zeros nl,0,false⟩,rfl,Mr.o,?_⟩⟩;unfold plO bgnP;simp only[ar.o,aV,Int.toNat_natCast,L1.o,L2.o]
     have HF:=κ n;clear n
     go_wp2_with fail
     exact bodyPost_ret (v:= .tuple #[.pointer (some (α y 0)),ι 0]) (by simp[results,Tryz.results48,go_sem]) rfl HF.o
end Mdg
end Go.Proofs.YtcccdikhfgpamaaGreat
