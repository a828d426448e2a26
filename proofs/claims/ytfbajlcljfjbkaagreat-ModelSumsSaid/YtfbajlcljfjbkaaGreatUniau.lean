/- Texts side by side. -/
import Derived.Test.YtfbajlcljfjbkaaGreatUnias
set_option linter.unusedVariables false
set_option linter.unusedSimpArgs false
set_option maxRecDepth 100000
set_option maxHeartbeats 16000000
namespace Go.Proofs.YtfbajlcljfjbkaaGreat
open Kap Abv Go.ChangeShapes Go.WideShapes Go.ChangeAt Go.RowKit Mem Tre Ref3 Law3 Fix3 Crd CrdB CrdC Res Rel
namespace Cfr
open Cpl Own Lim
def MadeRelF(l:List (Int×Int))(u:List Int)(b:Bool)(w:World)(e:Ending)(w':World):Prop:=
 ∃A c A' c',e= .returned (.tuple #[.agg #[.slice A l.length c,.slice A' u.length c'],.bool b])∧Nds w' w'.heap.size A l∧Ris w' w'.heap.size A' u∧Below w.heap.size w w'∧(∀a,A=some a→w.heap.size≤a.block)∧(∀a,A'=some a→w.heap.size≤a.block)
variable {l:List (Int×Int)} {u:List Int} {c c':Nat} {A A':Option Addr} {w w':World}
theorem madeRelF_mk{u':List Int}{b b':Bool}(fa: ∀a,A=some a→w.heap.size≤a.block)(fb: ∀a,A'=some a→w.heap.size≤a.block)(hu:u=u')(hp:b=b')(h1:Nds w' w'.heap.size A l)(h2:Ris w' w'.heap.size A' u')(hb:Below w.heap.size w w'):
  MadeRelF l u b w (.returned (.tuple #[.agg #[.slice A l.length c,.slice A' u'.length c'],.bool b'])) w':=by
 subst hu;subst hp;exact⟨A,c,A',c',rfl,h1,h2,hb,fa,fb⟩
def MadeLimF(l:List (Int×Int))(u:List Int)(b:Int)(w:World)(e:Ending)(w':World):Prop:=
 ∃A c A' c',e= .returned (.tuple #[.agg #[.slice A l.length c,.slice A' u.length c'],.int .i64 b])∧Nds w' w'.heap.size A l∧Ris w' w'.heap.size A' u∧Below w.heap.size w w'∧(∀a,A=some a→w.heap.size≤a.block)∧(∀a,A'=some a→w.heap.size≤a.block)
theorem madeLimF_mk{l':List (Int×Int)}{b b':Int}(fa: ∀a,A=some a→w.heap.size≤a.block)(fb: ∀a,A'=some a→w.heap.size≤a.block)(hu:l=l')(hp:b=b')(h1:Nds w' w'.heap.size A l')(h2:Ris w' w'.heap.size A' u)(hb:Below w.heap.size w w'):
  MadeLimF l u b w (.returned (.tuple #[.agg #[.slice A l'.length c,.slice A' u.length c'],.int .i64 b'])) w':=by
 subst hu;subst hp;exact⟨A,c,A',c',rfl,h1,h2,hb,fa,fb⟩
def MadeStF(l:List (Int×Int))(u:List Int)(w:World)(e:Ending)(w':World):Prop:=
 ∃A c A' c',e= .returned (.agg #[.slice A l.length c,.slice A' u.length c'])∧Nds w' w'.heap.size A l∧Ris w' w'.heap.size A' u∧Below w.heap.size w w'∧(∀a,A=some a→w.heap.size≤a.block)∧(∀a,A'=some a→w.heap.size≤a.block)
theorem madeStF_mk{n n':Nat}(fa: ∀a,A=some a→w.heap.size≤a.block)(fb: ∀a,A'=some a→w.heap.size≤a.block)(hn:n=l.length)(hn':n'=u.length)(h1:Nds w' w'.heap.size A l)(h2:Ris w' w'.heap.size A' u)(hb:Below w.heap.size w w'):
  MadeStF l u w (.returned (.agg #[.slice A n c,.slice A' n' c'])) w':=by
 subst hn;subst hn';exact⟨A,c,A',c',rfl,h1,h2,hb,fa,fb⟩
theorem release_fresh(A A':Option Addr)(c c':Nat)(l:List (Int×Int))(u:List Int)(n x:Int)(w:World)(hl:Hid (Nds w w.heap.size A l))(hu:Hid (Ris w w.heap.size A' u))(hg:GoodSt l u)(hn:inI n)(hx0: -9223372036854775808≤x)(hx1:x≤9223372036854775807):
  Calls Tryz.prog 115 #[.agg #[.slice A l.length c,.slice A' u.length c'],.int .i64 n,.int .i64 x] w (MadeRelF l (relU l u n x) (relF l u n x) w):=by
 have hr:=κ hg.right;have hw:=κ hg.wf;have hwu:=κ hg.wfi;have g1:=hg.few;have g2:(l.length:Int)≤32:=by omega
 have g3:(u.length:Int)≤32:=by rw[hg.len];omega
 have HG:=κ hg;obtain⟨P,hP⟩:=ν (pathF l 3 n);have HP:=κ hP;have p1:P.length≤3:=by rw[hP];exact path_le3 _ _ _
 clear hP hg
 go_enter Tryz.func115,Tryz.ntmps115
 go_wp2_with fail
 refine(start_own A A' c c' l u w hl hu g2 g3).mono ?_;rintro e w1 ⟨A1,c1,A2,c2,rfl,hpre⟩;have f0:=χ (hpre.k3.cell 0);have f1:=χ (hpre.k3.cell 1);have z0:=hpre.k3.thaw 0;have z1:=hpre.k3.thaw 1;have how:=κ hpre.store;have FA:Hid (∀a,A1=some a→w.heap.size≤a.block):=fun a h=>by have:=Rsf.own_fresh hpre.o1 a h;omega
 have FB:Hid (∀a,A2=some a→w.heap.size≤a.block):=fun a h=>by have:=Rsf.own_fresh hpre.o2 a h;omega
 clear hpre hl hu
 go_wp2_with fail
 generalize (w1.setCell (α w.heap.size 0) (.slice A1 l.length c1)).setCell (α w.heap.size 1) (.slice A2 u.length c2)=W2 at how ⊢;clear f0 f1 z0 z1;refine(pathOf_any A1 A2 c1 c2 l u n W2 (Rd.of_own how.out.o1) (Rd.of_own how.out.o2) hw hwu (by omega) (by omega) hn hr.out).mono ?_;rintro e W3 ⟨A3,c3,rfl,hr3,hf3,hb3⟩;have HF3:=κ hf3;have hob:=κ how.out.o2;have hsz2:w.heap.size+2≤W2.heap.size:=how.out.k6.lt;rw[←HP.out]at hr3 ⊢;have HR:=κ hr3;have how3:=κ (how.out.below hb3);clear how hr3 hb3 hf3;have f0:=χ (how3.out.k3.cell 0);have f1:=χ (how3.out.k3.cell 1);have r0:=χ (how3.out.k6.cell 0);have r1:=χ (how3.out.k6.cell 1);have y0:=how3.out.k6.thaw 0;have y1:=how3.out.k6.thaw 1;have fin:=fun(hu':relU l u n x=u) (hb':relF l u n x=false)=>(fin_st how3.out.o1 how3.out.o2 how3.out.k6 (by omega) (by omega) how3.out.bl (.slice A1 l.length c1) (.slice A2 u.length c2))
 obtain⟨t1,t2,t3,t4,t5⟩:=fin_st how3.out.o1 how3.out.o2 how3.out.k6 (by omega) (by omega) how3.out.bl (.slice A1 l.length c1) (.slice A2 u.length c2);have T1:=κ t1;have T2:=κ t2;clear fin t1 t2;by_cases hp0:P.length=0
 ·have q0:((P.length:Int)==0)=true:=beq_iff_eq.2 (by omega);have hres:Hid (relF l u n x=false):=relF_0 (by rw[←HP.out];exact hp0);have hresu:Hid (relU l u n x=u):=by show _=_;rw[relU,hres.out];rfl
  clear hp0
  go_wp2_with fail
  exact bodyPost_ret (v:= .tuple #[.agg #[.slice A1 l.length c1,.slice A2 u.length c2],.bool false]) (by simp[results,Tryz.results115,go_sem,t4,t5]) rfl (madeRelF_mk FA.out FB.out hresu.out hres.out T1.out T2.out t3)
 have q0:((P.length:Int)==0)=false:=beq_eq_false_iff_ne.2 (by omega);by_cases hx:x<0
 ·have hres:Hid (relF l u n x=false):=relF_m hx;have hresu:Hid (relU l u n x=u):=by show _=_;rw[relU,hres.out];rfl
  clear hp0
  go_wp2_with fail
  exact bodyPost_ret (v:= .tuple #[.agg #[.slice A1 l.length c1,.slice A2 u.length c2],.bool false]) (by simp[results,Tryz.results115,go_sem,t4,t5]) rfl (madeRelF_mk FA.out FB.out hresu.out hres.out T1.out T2.out t3)
 have hxf:decide (x<0)=false:=by simp;omega
 have happ:Hid (Apart u.length P):=by rw[HP.out];exact apart_path HG.out.okt HG.out.len n
 have hp1:0<P.length:=by omega
 clear hp0
 go_wp2_with fail
 have ho2b:=fun k hk=>(World.ownsRow.lt hob.out k hk).2
 obtain⟨g2,rfl,hg2a,hg2b,_,hc2,hs2⟩:=own_at how3.out.o2 (by rw[HG.out.len];have:=HG.out.one;omega);obtain⟨h1,rfl,hg1a,hg1b,_,hc1,hs1⟩:=own_at2 how3.out.o1 (by have:=HG.out.one;omega);have hg2w:=ho2b g2 rfl;have HC2:=κ hc2;clear ho2b hc1 hc2 hs1 hs2
 go_loopg [28] P.length (fun g s28 w'=> ∃k:Nat,k+g=P.length∧s28= ι k∧Hid (∀i,i<k→x≤gI u (gI P i).toNat)∧W3=w')
 case atStart=>exact⟨0,by omega,rfl,fun i hi=>absurd hi (Nat.not_lt_zero i),rfl⟩
 case round=>
  obtain⟨k,hk,rfl,hall,rfl⟩:=hrel;by_cases hlt:(k:Int)<(P.length:Int)
  ·obtain⟨g,rfl⟩: ∃g,gk=g+1:=⟨gk-1,by omega⟩;have hm:=happ.out.1 k (by omega);obtain⟨m,hmm⟩:=ν (gI P k);have HM:=κ hmm;rw[←hmm]at hm;obtain⟨hm0,hm1⟩:=hm;obtain⟨b,o,rfl,hb,hcc⟩:=Ris.at (i:=k) HR.out (by omega);have d0:=hcc k (by omega);rw[←hmm]at d0;have d1:=(HC2.out m.toNat (by omega)).1;have hu1:=HG.out.uok m.toNat (by omega);obtain⟨hu1a,hu1b⟩:=hu1;clear hcc hmm;by_cases hfit:gI u m.toNat<x
   ·have hres:=κ (relF_no (i:=k) (by rw[←HP.out];omega) (by rw[←HP.out,←HM.out];exact hfit));have hresu:Hid (relU l u n x=u):=by show _=_;rw[relU,hres.out];rfl
    go_wp2_with fail
    exact bodyPost_ret (v:= .tuple #[.agg #[.slice (some (α h1 0)) l.length c1,.slice (some (α g2 0)) u.length c2],.bool false]) (by simp[results,Tryz.results115,go_sem,t4,t5]) rfl (madeRelF_mk FA.out FB.out hresu.out hres.out T1.out T2.out t3)
   ·have hall':Hid (∀i,i<k+1→x≤gI u (gI P i).toNat):=fun i hi=>by
     by_cases e:i=k
     ·subst e;rw[←HM.out];omega
     ·exact hall.out i (by omega)
    go_wp2_with fail
    go_roundg g
    case measure=>omega
    case rel=>exact⟨k+1,by omega,by go_num,hall',rfl⟩
  ·have hc0:=κ (relF_t (by rw[←HP.out];exact hp1) (by omega) (fun i hi=>by rw[←HP.out]at hi ⊢;exact hall.out i (by omega)))
   have hcu:Hid (relU l u n x=addF u P (-x)):=by
    show _=_;rw[relU,hc0.out,if_pos rfl,←HP.out]
   have hokx:Hid (∀i,i<P.length→x≤gI u (gI P i).toNat):=fun i hi=>hall.out i (by omega)
   clear f0 f1 r0 r1 y0 y1 T1 T2 t3 t4 t5
   go_wp2_with fail
   go_loopg [43] P.length (fun g s67 w'=> ∃k:Nat,k+g=P.length∧s67= ι k∧Hid (Owned w w' (some (α h1 0)) (some (α g2 0)) c1 c2 l (addF u (P.take k) (-x)))∧Hid (Ris w' w'.heap.size A3 P))
   case atStart=>exact⟨0,by omega,rfl,by rw[List.take_zero,addF_nil];exact how3,HR⟩
   case round=>
    obtain⟨k,hk,rfl,how,HR⟩:=hrel;have f0:=χ (how.out.k3.cell 0)
    have f1:wr.cell? (α w.heap.size 1)=some (.slice (some (α g2 0)) u.length c2):=by
     have:=how.out.k3.cell 1;rw[addF_len]at this;exact this
    by_cases hlt:(k:Int)<(P.length:Int)
    ·obtain⟨g,rfl⟩: ∃g,gk=g+1:=⟨gk-1,by omega⟩;have hm:=happ.out.1 k (by omega);have hox:=hokx.out k (by omega);have hat:=addF_at (x:= -x) happ.out (show k<P.length by omega);have hstep:=addF_step (x:= -x) happ.out (show k<P.length by omega);obtain⟨m,hmm⟩:=ν (gI P k);rw[←hmm]at hm hox hat hstep;obtain⟨hm0,hm1⟩:=hm;obtain⟨b,o,rfl,hb,hcc⟩:=Ris.at (i:=k) HR.out (by omega);have d0:=hcc k (by omega);rw[←hmm]at d0;have hml:m.toNat<l.length:=by rw[←HG.out.len];omega
     have hml':m<u.length:=by omega
     obtain⟨g2',hg2',hg2c,hg2d,_,hc2,hs2⟩:=own_at how.out.o2 (by rw[addF_len];omega);obtain rfl:g2=g2':=by injection hg2' with e;injection e
     have hcm:=hc2 m.toNat (by rw[addF_len];omega);rw[hat]at hcm;obtain⟨d1,d2⟩:=hcm;have hsm:=hs2 m.toNat (gI u m.toNat-x) (by rw[addF_len];omega);rw[Int.sub_eq_add_neg,hstep]at hsm;have hu1:=HG.out.uok m.toNat (by omega);have hl1:=HG.out.okt m.toNat hml;obtain⟨hu1a,hu1b⟩:=hu1;obtain⟨_,_,hl1a,hl1b,_⟩:=hl1
     have how':Hid (Owned w (wr.setCell (α g2 m.toNat) (ι (gI u m.toNat-x))) (some (α h1 0)) (some (α g2 0)) c1 c2 l (addF u (P.take (k+1)) (-x))):=by
      refine⟨own_other how.out.o1 how.out.o2 (by decide) _ _,?_,?_,blk_far how.out.k6 (by simp;omega) _,how.out.bl.setCell (by simp;omega) _⟩
      ·rw[addF_len]at hsm ⊢;exact hsm
      ·have:=blk_far how.out.k3 (p:=(α g2 m.toNat)) (by simp;omega) (ι (gI u m.toNat-x));rw[addF_len]at this ⊢;exact this
     have HR':Hid (Ris (wr.setCell (α g2 m.toNat) (ι (gI u m.toNat-x))) (wr.setCell (α g2 m.toNat) (ι (gI u m.toNat-x))).heap.size (some (α b o)) P):=by
      refine HR.out.keep' (g:=g2) (by omega) ?_ _;intro a ha;have:=HF3.out a ha;omega
     clear hcc hmm hat hstep hc2 hs2 hsm
     go_wp2_with fail
     go_roundg g
     case measure=>omega
     case rel=>exact⟨k+1,by omega,by go_num,how',HR'⟩
    ·have hfin:Hid (Owned w wr (some (α h1 0)) (some (α g2 0)) c1 c2 l (addF u P (-x))):=by
      have:k=P.length:=by omega
      subst this;rw[addF_full]at how;exact how
     have hlen:Hid ((addF u P (-x)).length=u.length):=addF_len _ _ _;obtain⟨t1,t2,t3,t4,t5⟩:=fin_st hfin.out.o1 hfin.out.o2 hfin.out.k6 (by omega) (by omega) hfin.out.bl (.slice (some ⟨h1,0,none⟩) l.length c1) (.slice (some ⟨g2,0,none⟩) u.length c2);have T1:=κ t1;have T2:=κ t2;have r0:=χ (hfin.out.k6.cell 0);have r1:=χ (hfin.out.k6.cell 1);have y0:=hfin.out.k6.thaw 0;have y1:=hfin.out.k6.thaw 1;have hend:=κ (madeRelF_mk (c:=c1) (c':=c2) FA.out FB.out hcu.out hc0.out T1.out T2.out t3);rw[hlen.out]at hend;clear t1 t2
     go_wp2_with fail
     exact bodyPost_ret (v:= .tuple #[.agg #[.slice (some (α h1 0)) l.length c1,.slice (some (α g2 0)) u.length c2],.bool true]) (by simp[results,Tryz.results115,go_sem,t4,t5]) rfl hend.out
theorem limit_fresh(A A':Option Addr)(c c':Nat)(l:List (Int×Int))(u:List Int)(n x:Int)(w:World)(hl:Hid (Nds w w.heap.size A l))(hu:Hid (Ris w w.heap.size A' u))(hg:GoodSt l u)(hn:inI n)(hx0: -9223372036854775808≤x)(hx1:x≤9223372036854775807):
  Calls Tryz.prog 79 #[.agg #[.slice A l.length c,.slice A' u.length c'],.int .i64 n,.int .i64 x] w (MadeLimF (limL l n x) u (limF l n x) w):=by
 have hr:=κ hg.right;have hw:=κ hg.wf;have hwu:=κ hg.wfi;have g1:=hg.few;have g2:(l.length:Int)≤32:=by omega
 have g3:(u.length:Int)≤32:=by rw[hg.len];omega
 have HG:=κ hg;obtain⟨P,hP⟩:=ν (pathF l 3 n);have HP:=κ hP;have p1:P.length≤3:=by rw[hP];exact path_le3 _ _ _
 clear hP hg
 go_enter Tryz.func79,Tryz.ntmps79
 go_wp2_with fail
 refine(start_own A A' c c' l u w hl hu g2 g3).mono ?_;rintro e w1 ⟨A1,c1,A2,c2,rfl,hpre⟩;have f0:=χ (hpre.k3.cell 0);have f1:=χ (hpre.k3.cell 1);have z0:=hpre.k3.thaw 0;have z1:=hpre.k3.thaw 1;have how:=κ hpre.store;have FA:Hid (∀a,A1=some a→w.heap.size≤a.block):=fun a h=>by have:=Rsf.own_fresh hpre.o1 a h;omega
 have FB:Hid (∀a,A2=some a→w.heap.size≤a.block):=fun a h=>by have:=Rsf.own_fresh hpre.o2 a h;omega
 clear hpre hl hu
 go_wp2_with fail
 generalize (w1.setCell (α w.heap.size 0) (.slice A1 l.length c1)).setCell (α w.heap.size 1) (.slice A2 u.length c2)=W2 at how ⊢;clear f0 f1 z0 z1;refine(pathOf_any A1 A2 c1 c2 l u n W2 (Rd.of_own how.out.o1) (Rd.of_own how.out.o2) hw hwu (by omega) (by omega) hn hr.out).mono ?_;rintro e W3 ⟨A3,c3,rfl,hr3,hf3,hb3⟩;have HF3:=κ hf3;have hob:=κ how.out.o2;have hsz2:w.heap.size+2≤W2.heap.size:=how.out.k6.lt;rw[←HP.out]at hr3 ⊢;have HR:=κ hr3;have how3:=κ (how.out.below hb3);clear how hr3 hb3 hf3;have f0:=χ (how3.out.k3.cell 0);have f1:=χ (how3.out.k3.cell 1);have r0:=χ (how3.out.k6.cell 0);have r1:=χ (how3.out.k6.cell 1);have y0:=how3.out.k6.thaw 0;have y1:=how3.out.k6.thaw 1;by_cases hp0:P.length=0
 ·have q0:((P.length:Int)==0)=true:=beq_iff_eq.2 (by omega);have hout:=(path_none n).1 (by rw[←HP.out];exact hp0);have hres:Hid (limF l n x=18):=by show _=_;rw[limF,hout];rfl
  have hresu:Hid (limL l n x=l):=by show _=_;rw[limL,hres.out];rfl
  obtain⟨t1,t2,t3,t4,t5⟩:=fin_st how3.out.o1 how3.out.o2 how3.out.k6 (by omega) (by omega) how3.out.bl (.slice A1 l.length c1) (.slice A2 u.length c2);have T1:=κ t1;have T2:=κ t2;clear t1 t2 hp0 hout
  go_wp2_with fail
  exact bodyPost_ret (v:= .tuple #[.agg #[.slice A1 l.length c1,.slice A2 u.length c2],ι 18]) (by simp[results,Tryz.results79,go_sem,t4,t5]) rfl (madeLimF_mk FA.out FB.out hresu.out hres.out T1.out T2.out t3)
 have q0:((P.length:Int)==0)=false:=beq_eq_false_iff_ne.2 (by omega)
 have hin:Hid (inR l.length n=true):=by
  show _=_;cases hh:inR l.length n with
  |true=>rfl
  |false=>exact absurd (by rw[HP.out];exact(path_none n).2 hh) hp0
 obtain⟨hn0,hn1⟩:=inR_of hin.out;clear hp0;by_cases hx:x<0∨4611686018427387904<x
 ·have hres:Hid (limF l n x=1):=by show _=_;rw[limF,if_pos hin.out,if_pos hx]
  have hresu:Hid (limL l n x=l):=by show _=_;rw[limL,hres.out];rfl
  obtain⟨t1,t2,t3,t4,t5⟩:=fin_st how3.out.o1 how3.out.o2 how3.out.k6 (by omega) (by omega) how3.out.bl (.slice A1 l.length c1) (.slice A2 u.length c2);have T1:=κ t1;have T2:=κ t2;clear t1 t2;by_cases hx0:x<0
  ·clear hx
   go_wp2_with fail
   exact bodyPost_ret (v:= .tuple #[.agg #[.slice A1 l.length c1,.slice A2 u.length c2],ι 1]) (by simp[results,Tryz.results79,go_sem,t4,t5]) rfl (madeLimF_mk FA.out FB.out hresu.out hres.out T1.out T2.out t3)
  ·have hx2:4611686018427387904<x:=by omega
   clear hx
   go_wp2_with fail
   exact bodyPost_ret (v:= .tuple #[.agg #[.slice A1 l.length c1,.slice A2 u.length c2],ι 1]) (by simp[results,Tryz.results79,go_sem,t4,t5]) rfl (madeLimF_mk FA.out FB.out hresu.out hres.out T1.out T2.out t3)
 have hres:Hid (limF l n x=0):=by show _=_;rw[limF,if_pos hin.out,if_neg hx]
 have hresu:Hid (limL l n x=l.set n.toNat (nP l n.toNat,x)):=by show _=_;rw[limL,hres.out];rfl
 have hx0:0≤x:=by omega
 have hx2:x≤4611686018427387904:=by omega
 have hnl:n.toNat<l.length:=by omega
 clear hx;obtain⟨g1',rfl,hg1a,hg1b,_,hc1,hs1⟩:=own_at2 how3.out.o1 (by have:=HG.out.one;omega);obtain⟨d1,d2,d3⟩:=hc1 n.toNat hnl;have hsm:=hs1 n.toNat x hnl
 have o1':(W3.setCell (α g1' (n.toNat*2+1)) (ι x)).ownsRow (w.heap.size+2) 141 2 (.slice (some (α g1' 0)) (l.set n.toNat (nP l n.toNat,x)).length c1) (l.set n.toNat (nP l n.toNat,x)).length (nds (l.set n.toNat (nP l n.toNat,x))):=by
  rw[List.length_set];exact hsm
 have o2':=own_other how3.out.o2 how3.out.o1 (by decide) (n.toNat*2+1) (ι x);have k6':=blk_far how3.out.k6 (p:=(α g1' (n.toNat*2+1))) (by simp;omega) (ι x);have k3':=blk_far how3.out.k3 (p:=(α g1' (n.toNat*2+1))) (by simp;omega) (ι x);have bl':=how3.out.bl.setCell (p:=(α g1' (n.toNat*2+1))) (by simp;omega) (ι x);obtain⟨t1,t2,t3,t4,t5⟩:=fin_st o1' o2' k6' (by omega) (by omega) bl' (.slice (some ⟨g1',0,none⟩) l.length c1) (.slice A2 u.length c2);have v0:=χ (k3'.cell 0);have v1:=χ (k3'.cell 1);have s0:=χ (k6'.cell 0);have s1:=χ (k6'.cell 1);have T1:=κ t1;have T2:=κ t2;have hend:=κ (madeLimF_mk (c:=c1) (c':=c2) FA.out FB.out hresu.out hres.out T1.out T2.out t3);rw[List.length_set]at hend;clear t1 t2 o1' o2' k6' k3' hsm hc1 hs1
 go_wp2_with fail
 exact bodyPost_ret (v:= .tuple #[.agg #[.slice (some (α g1' 0)) l.length c1,.slice A2 u.length c2],ι 0]) (by simp[results,Tryz.results79,go_sem,t4,t5]) rfl hend.out
theorem begin_fresh(A:Option Addr)(c:Nat)(l:List (Int×Int))(w:World)(hl:Hid (Nds w w.heap.size A l))(hmax:(l.length:Int)≤1000000):
  Calls Tryz.prog 25 #[.slice A l.length c] w (MadeStF l (zeros l.length) w):=by
 obtain⟨i0,hi,hz0,hz1,hz2⟩:=info_parts i64_info;have hmk:=fun(W:World)=>run_make (P:=Tryz.prog) W 78 2 i0 (ι 0) Tryz.underlying78 hi hz0 .i64 .i64 (l.length:Int) (l.length:Int) (by omega) (by omega) (by rw[hz2];omega) (by omega)
 simp only[Int.toNat_natCast,hz1,Nat.mul_one]at hmk;have H1:Hid (∀W,Below w.heap.size w W→Nds W W.heap.size A l):=fun W hb=>Rd.below' hl.out hb hb.size
 have b0:=(β w (.cells (vS none 0 0 none 0 0) 80)).drew;have K0:Hid (Blk (w.alloc (.cells (vS none 0 0 none 0 0) 80)).drew w.heap.size 80 (vS none 0 0 none 0 0)):=Blk.fresh w _ _;have b0':=(γ w (.cells (vS none 0 0 none 0 0) 80) (.cells (madeCells #[ι 0] l.length) 2)).drew;have K0':Hid (Blk ((w.alloc (.cells (vS none 0 0 none 0 0) 80)).alloc (.cells (madeCells #[ι 0] l.length) 2)).drew w.heap.size 80 (vS none 0 0 none 0 0)):=(Blk.fresh w _ _).alloc _
 have Z0':Hid (Blk ((w.alloc (.cells (vS none 0 0 none 0 0) 80)).alloc (.cells (madeCells #[ι 0] l.length) 2)).drew (w.heap.size+1) 2 (madeCells #[ι 0] l.length)):=by
  have:=Blk.fresh (w.alloc (.cells (vS none 0 0 none 0 0) 80)) 2 (madeCells #[ι 0] l.length);rw[World.size_alloc]at this;exact this
 go_enter Tryz.func25,Tryz.ntmps25
 go_wp2_with fail
 go_region_held3 (fun w'=>True) (trivial)
  (first
   |(go_at_call 54;refine(cloneN_any _ _ l _ (H1.out _ (by assumption)) hmax).mono ?_;rintro e w1 ⟨A1,c1,rfl,ho1,hb1⟩;have b1:=below_step (by assumption) hb1;have k1:Hid (Blk w1 w.heap.size 80 #[.slice none 0 0,.slice none 0 0]):=Blk.below' (Hid.out (by assumption)) hb1;have r1:=χ (k1.out.cell 0);have s1:=χ (k1.out.cell 1);have y1:=k1.out.thaw 0;have z1:=k1.out.thaw 1;have n1:=k1.out.lt))
 ·have FA: ∀a,A1=some a→w.heap.size≤a.block:=fun a h=>by have h1:=Rsf.own_fresh ho1 a h;simp[World.drew]at h1;omega
  have FB: ∀a,(some (α w1.heap.size 0):Option Addr)=some a→w.heap.size≤a.block:=fun a h=>by injection h with h;rw[←h];first|(show w.heap.size≤w1.heap.size;exact b1.size)|(show w.heap.size≤w.heap.size+1;omega)
  have o1:((w1.setCell (α w.heap.size 0) (.slice A1 l.length c1)).setCell (α w.heap.size 1) (.slice (some (α w1.heap.size 0)) l.length l.length)).ownsRow (w.heap.size+1) 141 2 (.slice A1 l.length c1) l.length (nds l):=
   ownsRow_setCell_below (ownsRow_setCell_below (own_mono (base':=w.heap.size+1) ho1 (by simp[World.drew])) (by simp) _) (by simp) _
  have kf:=Blk.alloc (blk_set (blk_set k1.out 0 (.slice A1 l.length c1)) 1 (.slice (some (α w1.heap.size 0)) l.length l.length)) (.cells (madeCells #[ι 0] l.length) 2);have g0:=kf.cell 0;have g1:=kf.cell 1;simp at g0 g1;have zf:=Blk.fresh ((w1.setCell (α w.heap.size 0) (.slice A1 l.length c1)).setCell (α w.heap.size 1) (.slice (some (α w1.heap.size 0)) l.length l.length)) 2 (madeCells #[ι 0] l.length);have hsz:((w1.setCell (α w.heap.size 0) (.slice A1 l.length c1)).setCell (α w.heap.size 1) (.slice (some (α w1.heap.size 0)) l.length l.length)).heap.size=w1.heap.size:=by simp[World.setCell]
  rw[hsz]at zf;have bF:=((b1.setCell (p:=(α w.heap.size 0)) (by simp) (.slice A1 l.length c1)).setCell (p:=(α w.heap.size 1)) (by simp) (.slice (some (α w1.heap.size 0)) l.length l.length)).alloc (by rw[hsz];omega) (.cells (madeCells #[ι 0] l.length) 2);have O1:=κ (Rd.of_own (World.ownsRow.alloc o1 (.cells (madeCells #[ι 0] l.length) 2)));have ZF:=κ zf;clear o1 zf ho1 hsz hmk
  go_wp2_with fail
  exact bodyPost_ret (v:= .agg #[.slice A1 l.length c1,.slice (some (α w1.heap.size 0)) l.length l.length]) (by simp[results,Tryz.results25,go_sem,g0,g1]) rfl (madeStF_mk FA FB rfl (zeros_len _).symm O1.out (ZF.out.rd' (made_zeros _)) bF)
 ·have FA: ∀a,A1=some a→w.heap.size≤a.block:=fun a h=>by have h1:=Rsf.own_fresh ho1 a h;simp[World.drew]at h1;omega
  have FB: ∀a,(some (α (w.heap.size+1) 0):Option Addr)=some a→w.heap.size≤a.block:=fun a h=>by injection h with h;rw[←h];first|(show w.heap.size≤w1.heap.size;exact b1.size)|(show w.heap.size≤w.heap.size+1;omega)
  have o1:((w1.setCell (α w.heap.size 0) (.slice A1 l.length c1)).setCell (α w.heap.size 1) (.slice (some (α (w.heap.size+1) 0)) l.length l.length)).ownsRow (w.heap.size+1) 141 2 (.slice A1 l.length c1) l.length (nds l):=
   ownsRow_setCell_below (ownsRow_setCell_below (own_mono (base':=w.heap.size+1) ho1 (by simp[World.drew])) (by simp) _) (by simp) _
  have kf:=blk_set (blk_set k1.out 0 (.slice A1 l.length c1)) 1 (.slice (some (α (w.heap.size+1) 0)) l.length l.length);have g0:=kf.cell 0;have g1:=kf.cell 1;simp at g0 g1;have zf:=blk_far (blk_far (Blk.below' Z0'.out hb1) (p:=(α w.heap.size 0)) (by simp) (.slice A1 l.length c1)) (p:=(α w.heap.size 1)) (by simp) (.slice (some (α (w.heap.size+1) 0)) l.length l.length);have bF:=(b1.setCell (p:=(α w.heap.size 0)) (by simp) (.slice A1 l.length c1)).setCell (p:=(α w.heap.size 1)) (by simp) (.slice (some (α (w.heap.size+1) 0)) l.length l.length);have O1:=κ (Rd.of_own o1);have ZF:=κ zf;clear o1 zf ho1 hmk
  go_wp2_with fail
  exact bodyPost_ret (v:= .agg #[.slice A1 l.length c1,.slice (some (α (w.heap.size+1) 0)) l.length l.length]) (by simp[results,Tryz.results25,go_sem,g0,g1]) rfl (madeStF_mk FA FB rfl (zeros_len _).symm O1.out (ZF.out.rd' (made_zeros _)) bF)
end Cfr
namespace Mdr
open Lax Cfg Rr4 Rsf Bkp Bks Bcl Dlk Stk Apt Bko Bku Bka Bkc Cfr Mdp Mdz Mds Mdo Lat
open Rul1 hiding below_step
def MadeRl(base g:Nat)(q:Mq)(a:Nat)(x:Int)(w:World)(e:Ending)(w':World):Prop:=
 e= .returned (.tuple #[])∧ ∃A5 A6 d5 d6 nU,Mm base w' g {q with An:=A5,Au:=A6,n2:=nU,d1:=d5,d2:=d6,cu:=Cpl.relU q.cl q.cu (gI q.ac a) x}∧(∀b,A5=some b→w.heap.size≤b.block)∧(∀b,A6=some b→w.heap.size≤b.block)∧Kp w w' g q.Ab
theorem mrelease_any(base g aN:Nat)(q:Mq)(os op oq on ot y:Int)(ox:Bool)(w:World)(h:Hid (Mm base w g q))(hg:GoodSt q.cl q.cu)(hwa:WfI q.ac)(ha:aN<q.al)(hal:q.al≤100)(hx: -9223372036854775808≤op*y∧op*y≤9223372036854775807):
  Calls Tryz.prog 77 #[.pointer (some ⟨g,0,none⟩),.agg #[.int .i64 (aN:Int),.int .i64 os,.bool ox,.int .i64 op,.int .i64 oq,.int .i64 on,.int .i64 ot],.int .i64 y] w (MadeRl base g q aN (op*y) w):=by
 obtain⟨sh,wi,ra,ta,A,B,C,nl,al,sl,c,d,f,nd,ac,sy,Ab,nb,cb,xs,An,Au,n1,n2,d1,d2,cl,cu,ep,off⟩:=q;simp only at hg hwa ha hal;have L2:=κ (ξ h.out.l2);have L5:=κ (ξ h.out.l5);have L6:=κ (ξ h.out.l6);obtain⟨b5,o5,hb5,hb5l,hac⟩:=Ris.at (i:=0) h.out.ris (by show 0<ac.length;have:=L2.out;omega);simp only at hb5;subst hb5;have HB5:=κ hb5l;have ABT:=hac aN (by show aN<ac.length;rw[←L2.out];exact ha);have HABT:Hid (∀W,Below w.heap.size w W→W.cell? (α b5 (o5+aN))=some (ι (gI ac aN))):=fun W hb=>(hb.cell (p:=(α b5 (o5+aN))) hb5l).trans ABT
 have hin:=hwa aN (by rw[←L2.out];exact ha);have RS:=fun W hn hu=>release_fresh An Au d1 d2 cl cu (gI ac aN) (op*y) W hn hu hg hin hx.1 hx.2
 obtain⟨UU,hUU⟩:=ν (Cpl.relU cl cu (gI ac aN) (op*y));obtain⟨bb,hbb⟩:=ν (Cpl.relF cl cu (gI ac aN) (op*y));obtain⟨nU,hnU⟩:=ν UU.length;unfold MadeRelF at RS;rw[←hUU,←hbb,←L5.out,←L6.out]at RS;simp only[←hnU]at RS;have HUU:=κ hUU;have HNU:=κ hnU;obtain⟨av,hav⟩:=ν (gI ac aN);rw[←hav]at RS HABT hin;have HAV:=κ hav;have taN:decide ((aN:Int)<(al:Int))=true:=by simp;omega
 have tml:IntKind.i64.wrap (op*y)=op*y:=by rw[IntKind.wrap_i64];omega
 clear hUU hbb hnU hav hin ABT hac hb5l hwa hg;have U0:=κ (β w (.cells (vO (aN:Int) os ox op oq on ot) 60));have O0:Hid (Blk (w.alloc (.cells (vO (aN:Int) os ox op oq on ot) 60)) w.heap.size 60 (vO (aN:Int) os ox op oq on ot)):=Blk.fresh w _ _;have M0:=κ (Mm_below h.out U0.out);have hgl:=κ ((Mm_lt h.out).1);have hfar:=κ (ξ ((Mm_lt h.out).2))
 go_enter Tryz.func77,Tryz.ntmps77
 go_upto_region 1 with fail
 generalize hgO:w.heap.size=gO at O0 ⊢;have HGO:=κ hgO;clear hgO;generalize (w.alloc (.cells (vO (aN:Int) os ox op oq on ot) 60))=w0 at U0 O0 M0 ⊢;let T42:World→Prop:=fun w'=>w'.cell? (α g 8)=some (.slice An n1 d1)∧w'.cell? (α g 9)=some (.slice Au n2 d2)∧w'.cell? (α g 5)=some (.slice (some (α b5 o5)) al d)∧w'.cell? (α gO 0)=some (ι (aN:Int))∧w'.cell? (α gO 3)=some (ι op)∧w'.cell? (α b5 (o5+aN))=some (ι av)
 have HT:Hid (T42 (w0.drew)):=⟨M0.out.blk.cell 8,M0.out.blk.cell 9,M0.out.blk.cell 5,O0.out.cell 0,O0.out.cell 3,HABT.out _ (Below.drew U0.out)⟩;refine Ω T42 [24] ?_;refine jA 0 HT.out ?_;refine jA 1 HT.out ?_;refine jA 2 HT.out ?_;refine jA 3 HT.out ?_;refine jB 4 HT.out ?_;refine jA 5 HT.out ?_;refine jA 6 HT.out ?_;refine jA 7 HT.out ?_;refine jA 8 HT.out ?_;refine jB 9 HT.out ?_;refine jA 10 HT.out ?_;refine jB 11 HT.out ?_;refine jA 12 HT.out ?_;refine jB 13 HT.out ?_;refine jA 14 HT.out ?_;refine jB 15 HT.out ?_;refine jA 16 HT.out ?_;refine jA 17 HT.out ?_;refine jN 18 fun K' hK=>?_
 go_simp;refine(RS _ (κ (Rd.below' M0.out.cn (Below.drew ψ) τ)) (κ (Rd.below' M0.out.cr (Below.drew ψ) τ))).mono ?_;rintro e w1 ⟨A5,d5,A6,d6,rfl,hn5,hu5,hb1,fa5,fb5⟩;have HB1:=κ (CrdB.below_step (Below.drew ψ) hb1);have U1:=κ (CrdB.below_step U0.out HB1.out);have M1:=κ (Mm_below M0.out HB1.out);have O1:=κ (Blk.below' O0.out HB1.out);have N5:=κ hn5;have R5:=κ hu5;have S0:Hid (w.heap.size≤w0.drew.heap.size):=U0.out.size;have F5:Hid (Far g Ab A5 (nds cl)):=Far_new hgl.out hfar.out (fun a ha=>Nat.le_trans S0.out (fa5 a ha));have F6:Hid (Far g Ab A6 (ints UU)):=Far_new hgl.out hfar.out (fun a ha=>Nat.le_trans S0.out (fb5 a ha));have G5:=κ (fun a ha=>Nat.le_trans S0.out (fa5 a ha));have G6:=κ (fun a ha=>Nat.le_trans S0.out (fb5 a ha));have HT2:Hid (T42 w1):=⟨M1.out.blk.cell 8,M1.out.blk.cell 9,M1.out.blk.cell 5,O1.out.cell 0,O1.out.cell 3,HABT.out _ U1.out⟩;clear hn5 hu5 hb1 fa5 fb5 RS
 go_wp2_with fail
 refine hK.out _ _ HT2.out ?_;clear hK K';refine jP ?_;refine jA 19 HT2.out ?_;refine jA 20 HT2.out ?_;refine jA 21 HT2.out ?_;refine jA 22 HT2.out ?_;refine jA 23 HT2.out ?_;have K1:Hid (Blk w1 g 97 (vQ sh wi ra ta A nl c (some (α b5 o5)) al d C sl f Ab nb cb An n1 d1 Au n2 d2 ep off)):=M1.out.blk;have M2:Hid (Mm base ((w1.setCell (α g 8) (.slice A5 n1 d5)).setCell (α g 9) (.slice A6 nU d6)) g ⟨sh,wi,ra,ta,A,some (α b5 o5),C,nl,al,sl,c,d,f,nd,ac,sy,Ab,nb,cb,xs,A5,A6,n1,nU,d5,d6,cl,UU,ep,off⟩):=Mm_cr M1.out N5.out R5.out F5.out F6.out L5.out HNU.out
 have hfin:MadeRl base g ⟨sh,wi,ra,ta,A,some (α b5 o5),C,nl,al,sl,c,d,f,nd,ac,sy,Ab,nb,cb,xs,An,Au,n1,n2,d1,d2,cl,cu,ep,off⟩ aN (op*y) w (.returned (.tuple #[])) ((w1.setCell (α g 8) (.slice A5 n1 d5)).setCell (α g 9) (.slice A6 nU d6)):=
  ⟨rfl,A5,A6,d5,d6,nU,by have h2:=M2.out;rw[HUU.out]at h2;exact h2,G5.out,G6.out,Kp_setg (Kp_setg (Kp_of_below U1.out) 8 _) 9 _⟩
 have HF:=κ hfin;clear hfin M2;obtain⟨k0,k1,k2,k3,k4,k5,k6,k7,k8,k9,k10,k11,f0,f1,f2,f3,f4,f5,f6,f7,f8,f9,f10,f11⟩:=q12_of K1.out;refine jV 24 fun K' hK=>?_
 go_simp;refine hK.out _ _ ?_;clear hK K';refine jP ?_;refine Δ ?_
 go_wp2_with fail
 exact bodyPost_end (v:= .tuple #[]) (by simp[results,Tryz.results77,go_sem]) rfl HF.out
end Mdr
end Go.Proofs.YtfbajlcljfjbkaaGreat
