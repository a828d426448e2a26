/- Texts side by side. -/
import Derived.Test.YtcccdikhfgpamaaGreatUfaq
set_option linter.unusedVariables false
set_option linter.unusedSimpArgs false
set_option maxRecDepth 100000
set_option maxHeartbeats 16000000
namespace Go.Proofs.YtcccdikhfgpamaaGreat
open Kap Abv Go.ChangeShapes Go.WideShapes Go.ChangeAt Go.RowKit Mem Tre Ref3 Law3 Fix3 Crd CrdB CrdC Res Rel
namespace Cfr
open Cpl Own Lim
def MadeRelF(l:List (Int×Int))(u:List Int)(b:Bool)(w:World)(e:Ending)(w':World):Prop:=
 ∃A c A' c',e= .returned (.tuple #[.agg #[.slice A l.length c,.slice A' u.length c'],.bool b])∧Nds w' w'.heap.size A l∧Ris w' w'.heap.size A' u∧Below w.heap.size w w'∧(∀a,A=some a→w.heap.size≤a.block)∧(∀a,A'=some a→w.heap.size≤a.block)
variable {l:List (Int×Int)} {u:List Int} {c c':Nat} {A A':Option Addr} {w w':World}
theorem madeRelF_mk{u':List Int}{b b':Bool}(fa: ∀a,A=some a→w.heap.size≤a.block)(fb: ∀a,A'=some a→w.heap.size≤a.block)(hu:u=u')(hp:b=b')(h1:Nds w' w'.heap.size A l)(h2:Ris w' w'.heap.size A' u')(hb:Below w.heap.size w w'):
  MadeRelF l u b w (.returned (.tuple #[.agg #[.slice A l.length c,.slice A' u'.length c'],.bool b'])) w':=by
 subst hu;subst hp;exact⟨A,c,A',c',rfl,h1,h2,hb,fa,fb⟩
def MadeLimF(l:List (Int×Int))(u:List Int)(b:Int)(w:World)(e:Ending)(w':World):Prop:=
 ∃A c A' c',e= .returned (.tuple #[.agg #[.slice A l.length c,.slice A' u.length c'],.int .i64 b])∧Nds w' w'.heap.size A l∧Ris w' w'.heap.size A' u∧Below w.heap.size w w'∧(∀a,A=some a→w.heap.size≤a.block)∧(∀a,A'=some a→w.heap.size≤a.block)
theorem madeLimF_mk{l':List (Int×Int)}{b b':Int}(fa: ∀a,A=some a→w.heap.size≤a.block)(fb: ∀a,A'=some a→w.heap.size≤a.block)(hu:l=l')(hp:b=b')(h1:Nds w' w'.heap.size A l')(h2:Ris w' w'.heap.size A' u)(hb:Below w.heap.size w w'):
  MadeLimF l u b w (.returned (.tuple #[.agg #[.slice A l'.length c,.slice A' u.length c'],.int .i64 b'])) w':=by
 subst hu;subst hp;exact⟨A,c,A',c',rfl,h1,h2,hb,fa,fb⟩
def MadeStF(l:List (Int×Int))(u:List Int)(w:World)(e:Ending)(w':World):Prop:=
 ∃A c A' c',e= .returned (.agg #[.slice A l.length c,.slice A' u.length c'])∧Nds w' w'.heap.size A l∧Ris w' w'.heap.size A' u∧Below w.heap.size w w'∧(∀a,A=some a→w.heap.size≤a.block)∧(∀a,A'=some a→w.heap.size≤a.block)
theorem madeStF_mk{n n':Nat}(fa: ∀a,A=some a→w.heap.size≤a.block)(fb: ∀a,A'=some a→w.heap.size≤a.block)(hn:n=l.length)(hn':n'=u.length)(h1:Nds w' w'.heap.size A l)(h2:Ris w' w'.heap.size A' u)(hb:Below w.heap.size w w'):
  MadeStF l u w (.returned (.agg #[.slice A n c,.slice A' n' c'])) w':=by
 subst hn;subst hn';exact⟨A,c,A',c',rfl,h1,h2,hb,fa,fb⟩
theorem release_fresh(A A':Option Addr)(c c':Nat)(l:List (Int×Int))(u:List Int)(n x:Int)(w:World)(hl:Hid (Nds w w.heap.size A l))(hu:Hid (Ris w w.heap.size A' u))(hg:GoodSt l u)(hn:inI n)(hx0: -9223372036854775808≤x)(hx1:x≤9223372036854775807):
  Calls Tryz.prog 140 #[.agg #[.slice A l.length c,.slice A' u.length c'],.int .i64 n,.int .i64 x] w (MadeRelF l (relU l u n x) (relF l u n x) w):=by
 have hr:=κ hg.right;have hw:=κ hg.wf;have ae:=κ hg.wfi;have g1:=hg.few;have y:(l.length:Int)≤32:=by omega
 have g3:(u.length:Int)≤32:=by rw[hg.len];omega
 have J:=κ hg;obtain⟨P,hP⟩:=ν (pathF l 3 n);have O:=κ hP;have p1:P.length≤3:=by rw[hP];exact path_le3 _ _ _
 clear hP hg
 go_enter Tryz.func140,Tryz.ntmps140
 go_wp2_with fail
 refine(start_own A A' c c' l u w hl hu y g3).mono ?_;rintro e w1 ⟨S,F,T,C,rfl,j⟩;have f0:=χ (j.k3.cell 0);have f1:=χ (j.k3.cell 1);have z0:=j.k3.thaw 0;have z1:=j.k3.thaw 1;have f:=κ j.store;have FA:Hid (∀a,S=some a→w.heap.size≤a.block):=fun a h=>by have:=Rsf.own_fresh j.o1 a h;omega
 have FB:Hid (∀a,T=some a→w.heap.size≤a.block):=fun a h=>by have:=Rsf.own_fresh j.o2 a h;omega
 clear j hl hu
 go_wp2_with fail
 generalize (w1.setCell (α w.heap.size 0) (.slice S l.length F)).setCell (α w.heap.size 1) (.slice T u.length C)=W2 at f ⊢;clear f0 f1 z0 z1;refine(pathOf_any S T F C l u n W2 (Rd.of_own f.o.o1) (Rd.of_own f.o.o2) hw ae (by omega) (by omega) hn hr.o).mono ?_;rintro e W3 ⟨A3,c3,rfl,U,aa,ab⟩;have af:=κ aa;have ag:=κ f.o.o2;have aD:w.heap.size+2≤W2.heap.size:=f.o.k6.lt;rw[←O.o]at U ⊢;have HR:=κ U;have d:=κ (f.o.below ab);clear f U ab aa;have f0:=χ (d.o.k3.cell 0);have f1:=χ (d.o.k3.cell 1);have r0:=χ (d.o.k6.cell 0);have r1:=χ (d.o.k6.cell 1);have y0:=d.o.k6.thaw 0;have y1:=d.o.k6.thaw 1;have fin:=fun(hu':relU l u n x=u) (hb':relF l u n x=false)=>(fin_st d.o.o1 d.o.o2 d.o.k6 (by omega) (by omega) d.o.bl (.slice S l.length F) (.slice T u.length C))
 obtain⟨t1,t2,t3,t4,t5⟩:=fin_st d.o.o1 d.o.o2 d.o.k6 (by omega) (by omega) d.o.bl (.slice S l.length F) (.slice T u.length C);have Y:=κ t1;have Z:=κ t2;clear fin t1 t2;by_cases hp0:P.length=0
 ·have q0:((P.length:Int)==0)=true:=beq_iff_eq.2 (by omega);have q:Hid (relF l u n x=false):=relF_0 (by rw[←O.o];exact hp0);have s:Hid (relU l u n x=u):=by show _=_;rw[relU,q.o];rfl
  clear hp0
  go_wp2_with fail
  exact bodyPost_ret (v:= .tuple #[.agg #[.slice S l.length F,.slice T u.length C],.bool false]) (by simp[results,Tryz.results140,go_sem,t4,t5]) rfl (madeRelF_mk FA.o FB.o s.o q.o Y.o Z.o t3)
 have q0:((P.length:Int)==0)=false:=beq_eq_false_iff_ne.2 (by omega);by_cases hx:x<0
 ·have q:Hid (relF l u n x=false):=relF_m hx;have s:Hid (relU l u n x=u):=by show _=_;rw[relU,q.o];rfl
  clear hp0
  go_wp2_with fail
  exact bodyPost_ret (v:= .tuple #[.agg #[.slice S l.length F,.slice T u.length C],.bool false]) (by simp[results,Tryz.results140,go_sem,t4,t5]) rfl (madeRelF_mk FA.o FB.o s.o q.o Y.o Z.o t3)
 have aE:decide (x<0)=false:=by simp;omega
 have E:Hid (Apart u.length P):=by rw[O.o];exact apart_path J.o.okt J.o.len n
 have ah:0<P.length:=by omega
 clear hp0
 go_wp2_with fail
 have Q:=fun k hk=>(World.ownsRow.lt ag.o k hk).2
 obtain⟨y,rfl,aF,aG,_,G,K⟩:=own_at d.o.o2 (by rw[J.o.len];have:=J.o.one;omega);obtain⟨h1,rfl,aH,aI,_,ai,aj⟩:=own_at2 d.o.o1 (by have:=J.o.one;omega);have aJ:=Q y rfl;have ak:=κ G;clear Q ai G aj K
 go_loopg [28] P.length (fun g al w'=> ∃k:Nat,k+g=P.length∧al= ι k∧Hid (∀i,i<k→x≤gI u (gI P i).toNat)∧W3=w')
 case atStart=>exact⟨0,by omega,rfl,fun i hi=>absurd hi (Nat.not_lt_zero i),rfl⟩
 case round=>
  obtain⟨k,hk,rfl,H,rfl⟩:=hrel;by_cases hlt:(k:Int)<(P.length:Int)
  ·obtain⟨g,rfl⟩: ∃g,gk=g+1:=⟨gk-1,by omega⟩;have hm:=E.o.1 k (by omega);obtain⟨m,t⟩:=ν (gI P k);have HM:=κ t;rw[←t]at hm;obtain⟨am,an⟩:=hm;obtain⟨b,o,rfl,hb,I⟩:=Ris.at (i:=k) HR.o (by omega);have d0:=I k (by omega);rw[←t]at d0;have d1:=(ak.o m.toNat (by omega)).1;have V:=J.o.uok m.toNat (by omega);obtain⟨ao,ap⟩:=V;clear I t;by_cases hfit:gI u m.toNat<x
   ·have q:=κ (relF_no (i:=k) (by rw[←O.o];omega) (by rw[←O.o,←HM.o];exact hfit));have s:Hid (relU l u n x=u):=by show _=_;rw[relU,q.o];rfl
    go_wp2_with fail
    exact bodyPost_ret (v:= .tuple #[.agg #[.slice (some (α h1 0)) l.length F,.slice (some (α y 0)) u.length C],.bool false]) (by simp[results,Tryz.results140,go_sem,t4,t5]) rfl (madeRelF_mk FA.o FB.o s.o q.o Y.o Z.o t3)
   ·have W:Hid (∀i,i<k+1→x≤gI u (gI P i).toNat):=fun i hi=>by
     by_cases e:i=k
     ·subst e;rw[←HM.o];omega
     ·exact H.o i (by omega)
    go_wp2_with fail
    go_roundg g
    case measure=>omega
    case rel=>exact⟨k+1,by omega,by go_num,W,rfl⟩
  ·have ac:=κ (relF_t (by rw[←O.o];exact ah) (by omega) (fun i hi=>by rw[←O.o]at hi ⊢;exact H.o i (by omega)))
   have aq:Hid (relU l u n x=addF u P (-x)):=by
    show _=_;rw[relU,ac.o,if_pos rfl,←O.o]
   have ar:Hid (∀i,i<P.length→x≤gI u (gI P i).toNat):=fun i hi=>H.o i (by omega)
   clear f0 f1 r0 r1 y0 y1 Y Z t3 t4 t5
   go_wp2_with fail
   go_loopg [43] P.length (fun g au w'=> ∃k:Nat,k+g=P.length∧au= ι k∧Hid (Owned w w' (some (α h1 0)) (some (α y 0)) F C l (addF u (P.take k) (-x)))∧Hid (Ris w' w'.heap.size A3 P))
   case atStart=>exact⟨0,by omega,rfl,by rw[List.take_zero,addF_nil];exact d,HR⟩
   case round=>
    obtain⟨k,hk,rfl,f,HR⟩:=hrel;have f0:=χ (f.o.k3.cell 0)
    have f1:wr.cell? (α w.heap.size 1)=some (.slice (some (α y 0)) u.length C):=by
     have:=f.o.k3.cell 1;rw[addF_len]at this;exact this
    by_cases hlt:(k:Int)<(P.length:Int)
    ·obtain⟨g,rfl⟩: ∃g,gk=g+1:=⟨gk-1,by omega⟩;have hm:=E.o.1 k (by omega);have av:=ar.o k (by omega);have X:=addF_at (x:= -x) E.o (show k<P.length by omega);have z:=addF_step (x:= -x) E.o (show k<P.length by omega);obtain⟨m,t⟩:=ν (gI P k);rw[←t]at hm av X z;obtain⟨am,an⟩:=hm;obtain⟨b,o,rfl,hb,I⟩:=Ris.at (i:=k) HR.o (by omega);have d0:=I k (by omega);rw[←t]at d0;have aw:m.toNat<l.length:=by rw[←J.o.len];omega
     have aK:m<u.length:=by omega
     obtain⟨ax,ay,aL,aM,_,G,K⟩:=own_at f.o.o2 (by rw[addF_len];omega);obtain rfl:y=ax:=by injection ay with e;injection e
     have ad:=G m.toNat (by rw[addF_len];omega);rw[X]at ad;obtain⟨d1,d2⟩:=ad;have L:=K m.toNat (gI u m.toNat-x) (by rw[addF_len];omega);rw[Int.sub_eq_add_neg,z]at L;have V:=J.o.uok m.toNat (by omega);have az:=J.o.okt m.toNat aw;obtain⟨ao,ap⟩:=V;obtain⟨_,_,aN,aO,_⟩:=az
     have aA:Hid (Owned w (wr.setCell (α y m.toNat) (ι (gI u m.toNat-x))) (some (α h1 0)) (some (α y 0)) F C l (addF u (P.take (k+1)) (-x))):=by
      refine⟨own_other f.o.o1 f.o.o2 (by decide) _ _,?_,?_,blk_far f.o.k6 (by simp;omega) _,f.o.bl.setCell (by simp;omega) _⟩
      ·rw[addF_len]at L ⊢;exact L
      ·have:=blk_far f.o.k3 (p:=(α y m.toNat)) (by simp;omega) (ι (gI u m.toNat-x));rw[addF_len]at this ⊢;exact this
     have aB:Hid (Ris (wr.setCell (α y m.toNat) (ι (gI u m.toNat-x))) (wr.setCell (α y m.toNat) (ι (gI u m.toNat-x))).heap.size (some (α b o)) P):=by
      refine HR.o.keep' (g:=y) (by omega) ?_ _;intro a ha;have:=af.o a ha;omega
     clear I t X z G K L
     go_wp2_with fail
     go_roundg g
     case measure=>omega
     case rel=>exact⟨k+1,by omega,by go_num,aA,aB⟩
    ·have r:Hid (Owned w wr (some (α h1 0)) (some (α y 0)) F C l (addF u P (-x))):=by
      have:k=P.length:=by omega
      subst this;rw[addF_full]at f;exact f
     have aC:Hid ((addF u P (-x)).length=u.length):=addF_len _ _ _;obtain⟨t1,t2,t3,t4,t5⟩:=fin_st r.o.o1 r.o.o2 r.o.k6 (by omega) (by omega) r.o.bl (.slice (some ⟨h1,0,none⟩) l.length F) (.slice (some ⟨y,0,none⟩) u.length C);have Y:=κ t1;have Z:=κ t2;have r0:=χ (r.o.k6.cell 0);have r1:=χ (r.o.k6.cell 1);have y0:=r.o.k6.thaw 0;have y1:=r.o.k6.thaw 1;have R:=κ (madeRelF_mk (c:=F) (c':=C) FA.o FB.o aq.o ac.o Y.o Z.o t3);rw[aC.o]at R;clear t1 t2
     go_wp2_with fail
     exact bodyPost_ret (v:= .tuple #[.agg #[.slice (some (α h1 0)) l.length F,.slice (some (α y 0)) u.length C],.bool true]) (by simp[results,Tryz.results140,go_sem,t4,t5]) rfl R.o
theorem limit_fresh(A A':Option Addr)(c c':Nat)(l:List (Int×Int))(u:List Int)(n x:Int)(w:World)(hl:Hid (Nds w w.heap.size A l))(hu:Hid (Ris w w.heap.size A' u))(hg:GoodSt l u)(hn:inI n)(hx0: -9223372036854775808≤x)(hx1:x≤9223372036854775807):
  Calls Tryz.prog 102 #[.agg #[.slice A l.length c,.slice A' u.length c'],.int .i64 n,.int .i64 x] w (MadeLimF (limL l n x) u (limF l n x) w):=by
 have hr:=κ hg.right;have hw:=κ hg.wf;have T:=κ hg.wfi;have g1:=hg.few;have g2:(l.length:Int)≤32:=by omega
 have g3:(u.length:Int)≤32:=by rw[hg.len];omega
 have HG:=κ hg;obtain⟨P,U⟩:=ν (pathF l 3 n);have V:=κ U;have p1:P.length≤3:=by rw[U];exact path_le3 _ _ _
 clear U hg
 go_enter Tryz.func102,Tryz.ntmps102
 go_wp2_with fail
 refine(start_own A A' c c' l u w hl hu g2 g3).mono ?_;rintro e w1 ⟨r,k,m,o,rfl,g⟩;have Y:=χ (g.k3.cell 0);have Z:=χ (g.k3.cell 1);have z0:=g.k3.thaw 0;have z1:=g.k3.thaw 1;have i:=κ g.store;have R:Hid (∀a,r=some a→w.heap.size≤a.block):=fun a h=>by have:=Rsf.own_fresh g.o1 a h;omega
 have S:Hid (∀a,m=some a→w.heap.size≤a.block):=fun a h=>by have:=Rsf.own_fresh g.o2 a h;omega
 clear g hl hu
 go_wp2_with fail
 generalize (w1.setCell (α w.heap.size 0) (.slice r l.length k)).setCell (α w.heap.size 1) (.slice m u.length o)=W2 at i ⊢;clear Y Z z0 z1;refine(pathOf_any r m k o l u n W2 (Rd.of_own i.o.o1) (Rd.of_own i.o.o2) hw T (by omega) (by omega) hn hr.o).mono ?_;rintro e W3 ⟨A3,c3,rfl,y,G,H⟩;have aa:=κ G;have ab:=κ i.o.o2;have ac:w.heap.size+2≤W2.heap.size:=i.o.k6.lt;rw[←V.o]at y ⊢;have HR:=κ y;have b:=κ (i.o.below H);clear i y H G;have Y:=χ (b.o.k3.cell 0);have Z:=χ (b.o.k3.cell 1);have r0:=χ (b.o.k6.cell 0);have r1:=χ (b.o.k6.cell 1);have y0:=b.o.k6.thaw 0;have y1:=b.o.k6.thaw 1;by_cases hp0:P.length=0
 ·have q0:((P.length:Int)==0)=true:=beq_iff_eq.2 (by omega);have s:=(path_none n).1 (by rw[←V.o];exact hp0);have d:Hid (limF l n x=18):=by show _=_;rw[limF,s];rfl
  have f:Hid (limL l n x=l):=by show _=_;rw[limL,d.o];rfl
  obtain⟨t1,t2,t3,t4,t5⟩:=fin_st b.o.o1 b.o.o2 b.o.k6 (by omega) (by omega) b.o.bl (.slice r l.length k) (.slice m u.length o);have E:=κ t1;have F:=κ t2;clear t1 t2 hp0 s
  go_wp2_with fail
  exact bodyPost_ret (v:= .tuple #[.agg #[.slice r l.length k,.slice m u.length o],ι 18]) (by simp[results,Tryz.results102,go_sem,t4,t5]) rfl (madeLimF_mk R.o S.o f.o d.o E.o F.o t3)
 have q0:((P.length:Int)==0)=false:=beq_eq_false_iff_ne.2 (by omega)
 have z:Hid (inR l.length n=true):=by
  show _=_;cases hh:inR l.length n with
  |true=>rfl
  |false=>exact absurd (by rw[V.o];exact(path_none n).2 hh) hp0
 obtain⟨ad,ae⟩:=inR_of z.o;clear hp0;by_cases hx:x<0∨4611686018427387904<x
 ·have d:Hid (limF l n x=1):=by show _=_;rw[limF,if_pos z.o,if_pos hx]
  have f:Hid (limL l n x=l):=by show _=_;rw[limL,d.o];rfl
  obtain⟨t1,t2,t3,t4,t5⟩:=fin_st b.o.o1 b.o.o2 b.o.k6 (by omega) (by omega) b.o.bl (.slice r l.length k) (.slice m u.length o);have E:=κ t1;have F:=κ t2;clear t1 t2;by_cases hx0:x<0
  ·clear hx
   go_wp2_with fail
   exact bodyPost_ret (v:= .tuple #[.agg #[.slice r l.length k,.slice m u.length o],ι 1]) (by simp[results,Tryz.results102,go_sem,t4,t5]) rfl (madeLimF_mk R.o S.o f.o d.o E.o F.o t3)
  ·have W:4611686018427387904<x:=by omega
   clear hx
   go_wp2_with fail
   exact bodyPost_ret (v:= .tuple #[.agg #[.slice r l.length k,.slice m u.length o],ι 1]) (by simp[results,Tryz.results102,go_sem,t4,t5]) rfl (madeLimF_mk R.o S.o f.o d.o E.o F.o t3)
 have d:Hid (limF l n x=0):=by show _=_;rw[limF,if_pos z.o,if_neg hx]
 have f:Hid (limL l n x=l.set n.toNat (nP l n.toNat,x)):=by show _=_;rw[limL,d.o];rfl
 have hx0:0≤x:=by omega
 have W:x≤4611686018427387904:=by omega
 have I:n.toNat<l.length:=by omega
 clear hx;obtain⟨j,rfl,af,ag,_,J,K⟩:=own_at2 b.o.o1 (by have:=HG.o.one;omega);obtain⟨d1,d2,d3⟩:=J n.toNat I;have L:=K n.toNat x I
 have O:(W3.setCell (α j (n.toNat*2+1)) (ι x)).ownsRow (w.heap.size+2) 151 2 (.slice (some (α j 0)) (l.set n.toNat (nP l n.toNat,x)).length k) (l.set n.toNat (nP l n.toNat,x)).length (nds (l.set n.toNat (nP l n.toNat,x))):=by
  rw[List.length_set];exact L
 have Q:=own_other b.o.o2 b.o.o1 (by decide) (n.toNat*2+1) (ι x);have q:=blk_far b.o.k6 (p:=(α j (n.toNat*2+1))) (by simp;omega) (ι x);have C:=blk_far b.o.k3 (p:=(α j (n.toNat*2+1))) (by simp;omega) (ι x);have X:=b.o.bl.setCell (p:=(α j (n.toNat*2+1))) (by simp;omega) (ι x);obtain⟨t1,t2,t3,t4,t5⟩:=fin_st O Q q (by omega) (by omega) X (.slice (some ⟨j,0,none⟩) l.length k) (.slice m u.length o);have v0:=χ (C.cell 0);have v1:=χ (C.cell 1);have s0:=χ (q.cell 0);have s1:=χ (q.cell 1);have E:=κ t1;have F:=κ t2;have t:=κ (madeLimF_mk (c:=k) (c':=o) R.o S.o f.o d.o E.o F.o t3);rw[List.length_set]at t;clear t1 t2 O Q q C L J K
 go_wp2_with fail
 exact bodyPost_ret (v:= .tuple #[.agg #[.slice (some (α j 0)) l.length k,.slice m u.length o],ι 0]) (by simp[results,Tryz.results102,go_sem,t4,t5]) rfl t.o
theorem begin_fresh(A:Option Addr)(c:Nat)(l:List (Int×Int))(w:World)(hl:Hid (Nds w w.heap.size A l))(hmax:(l.length:Int)≤1000000):
  Calls Tryz.prog 81 #[.slice A l.length c] w (MadeStF l (zeros l.length) w):=by
 obtain⟨L,O,x,y,z⟩:=info_parts i64_info;have i:=fun(W:World)=>run_make (P:=Tryz.prog) W 112 2 L (ι 0) Tryz.underlying112 O x .i64 .i64 (l.length:Int) (l.length:Int) (by omega) (by omega) (by rw[z];omega) (by omega)
 simp only[Int.toNat_natCast,y,Nat.mul_one]at i;have Q:Hid (∀W,Below w.heap.size w W→Nds W W.heap.size A l):=fun W K=>Rd.below' hl.o K K.size
 have T:=(β w (.cells (vS none 0 0 none 0 0) 142)).drew;have U:Hid (Blk (w.alloc (.cells (vS none 0 0 none 0 0) 142)).drew w.heap.size 142 (vS none 0 0 none 0 0)):=Blk.fresh w _ _;have R:=(γ w (.cells (vS none 0 0 none 0 0) 142) (.cells (madeCells #[ι 0] l.length) 2)).drew;have S:Hid (Blk ((w.alloc (.cells (vS none 0 0 none 0 0) 142)).alloc (.cells (madeCells #[ι 0] l.length) 2)).drew w.heap.size 142 (vS none 0 0 none 0 0)):=(Blk.fresh w _ _).alloc _
 have C:Hid (Blk ((w.alloc (.cells (vS none 0 0 none 0 0) 142)).alloc (.cells (madeCells #[ι 0] l.length) 2)).drew (w.heap.size+1) 2 (madeCells #[ι 0] l.length)):=by
  have:=Blk.fresh (w.alloc (.cells (vS none 0 0 none 0 0) 142)) 2 (madeCells #[ι 0] l.length);rw[World.size_alloc]at this;exact this
 go_enter Tryz.func81,Tryz.ntmps81
 go_wp2_with fail
 go_region_held3 (fun w'=>True) (trivial)
  (first
   |(go_at_call 113;refine(cloneN_any _ _ l _ (Q.o _ (by assumption)) hmax).mono ?_;rintro e b ⟨d,f,rfl,g,j⟩;have t:=below_step (by assumption) j;have k:Hid (Blk b w.heap.size 142 #[.slice none 0 0,.slice none 0 0]):=Blk.below' (Hid.o (by assumption)) j;have V:=χ (k.o.cell 0);have X:=χ (k.o.cell 1);have Y:=k.o.thaw 0;have Z:=k.o.thaw 1;have n1:=k.o.lt))
 ·have E: ∀a,d=some a→w.heap.size≤a.block:=fun a h=>by have F:=Rsf.own_fresh g a h;simp[World.drew]at F;omega
  have G: ∀a,(some (α b.heap.size 0):Option Addr)=some a→w.heap.size≤a.block:=fun a h=>by injection h with h;rw[←h];first|(show w.heap.size≤b.heap.size;exact t.size)|(show w.heap.size≤w.heap.size+1;omega)
  have o:((b.setCell (α w.heap.size 0) (.slice d l.length f)).setCell (α w.heap.size 1) (.slice (some (α b.heap.size 0)) l.length l.length)).ownsRow (w.heap.size+1) 151 2 (.slice d l.length f) l.length (nds l):=
   ownsRow_setCell_below (ownsRow_setCell_below (own_mono (base':=w.heap.size+1) g (by simp[World.drew])) (by simp) _) (by simp) _
  have q:=Blk.alloc (blk_set (blk_set k.o 0 (.slice d l.length f)) 1 (.slice (some (α b.heap.size 0)) l.length l.length)) (.cells (madeCells #[ι 0] l.length) 2);have r:=q.cell 0;have s:=q.cell 1;simp at r s;have n:=Blk.fresh ((b.setCell (α w.heap.size 0) (.slice d l.length f)).setCell (α w.heap.size 1) (.slice (some (α b.heap.size 0)) l.length l.length)) 2 (madeCells #[ι 0] l.length);have m:((b.setCell (α w.heap.size 0) (.slice d l.length f)).setCell (α w.heap.size 1) (.slice (some (α b.heap.size 0)) l.length l.length)).heap.size=b.heap.size:=by simp[World.setCell]
  rw[m]at n;have H:=((t.setCell (p:=(α w.heap.size 0)) (by simp) (.slice d l.length f)).setCell (p:=(α w.heap.size 1)) (by simp) (.slice (some (α b.heap.size 0)) l.length l.length)).alloc (by rw[m];omega) (.cells (madeCells #[ι 0] l.length) 2);have I:=κ (Rd.of_own (World.ownsRow.alloc o (.cells (madeCells #[ι 0] l.length) 2)));have J:=κ n;clear o n g m i
  go_wp2_with fail
  exact bodyPost_ret (v:= .agg #[.slice d l.length f,.slice (some (α b.heap.size 0)) l.length l.length]) (by simp[results,Tryz.results81,go_sem,r,s]) rfl (madeStF_mk E G rfl (zeros_len _).symm I.o (J.o.rd' (made_zeros _)) H)
 ·have E: ∀a,d=some a→w.heap.size≤a.block:=fun a h=>by have F:=Rsf.own_fresh g a h;simp[World.drew]at F;omega
  have G: ∀a,(some (α (w.heap.size+1) 0):Option Addr)=some a→w.heap.size≤a.block:=fun a h=>by injection h with h;rw[←h];first|(show w.heap.size≤b.heap.size;exact t.size)|(show w.heap.size≤w.heap.size+1;omega)
  have o:((b.setCell (α w.heap.size 0) (.slice d l.length f)).setCell (α w.heap.size 1) (.slice (some (α (w.heap.size+1) 0)) l.length l.length)).ownsRow (w.heap.size+1) 151 2 (.slice d l.length f) l.length (nds l):=
   ownsRow_setCell_below (ownsRow_setCell_below (own_mono (base':=w.heap.size+1) g (by simp[World.drew])) (by simp) _) (by simp) _
  have q:=blk_set (blk_set k.o 0 (.slice d l.length f)) 1 (.slice (some (α (w.heap.size+1) 0)) l.length l.length);have r:=q.cell 0;have s:=q.cell 1;simp at r s;have n:=blk_far (blk_far (Blk.below' C.o j) (p:=(α w.heap.size 0)) (by simp) (.slice d l.length f)) (p:=(α w.heap.size 1)) (by simp) (.slice (some (α (w.heap.size+1) 0)) l.length l.length);have H:=(t.setCell (p:=(α w.heap.size 0)) (by simp) (.slice d l.length f)).setCell (p:=(α w.heap.size 1)) (by simp) (.slice (some (α (w.heap.size+1) 0)) l.length l.length);have I:=κ (Rd.of_own o);have J:=κ n;clear o n g i
  go_wp2_with fail
  exact bodyPost_ret (v:= .agg #[.slice d l.length f,.slice (some (α (w.heap.size+1) 0)) l.length l.length]) (by simp[results,Tryz.results81,go_sem,r,s]) rfl (madeStF_mk E G rfl (zeros_len _).symm I.o (J.o.rd' (made_zeros _)) H)
end Cfr
namespace Mdr
open Lax Cfg Rr4 Rsf Bkp Bks Bcl Dlk Stk Apt Bko Bku Bka Bkc Cfr Mdp Mdz Mds Mdo Lat
open Rul1 hiding below_step
def MadeRl(base g:Nat)(q:Mq)(a:Nat)(x:Int)(w:World)(e:Ending)(w':World):Prop:=
 e= .returned (.tuple #[])∧ ∃A5 A6 d5 d6 nU,Mm base w' g {q with An:=A5,Au:=A6,n2:=nU,d1:=d5,d2:=d6,cu:=Cpl.relU q.cl q.cu (gI q.ac a) x}∧(∀b,A5=some b→w.heap.size≤b.block)∧(∀b,A6=some b→w.heap.size≤b.block)∧Kp w w' g q.Ab
theorem mrelease_any(base g aN:Nat)(q:Mq)(os op oq on ot y:Int)(ox:Bool)(w:World)(h:Hid (Mm base w g q))(hg:GoodSt q.cl q.cu)(hwa:WfI q.ac)(ha:aN<q.al)(hal:q.al≤100)(hx: -9223372036854775808≤op*y∧op*y≤9223372036854775807):
  Calls Tryz.prog 100 #[.pointer (some ⟨g,0,none⟩),.agg #[.int .i64 (aN:Int),.int .i64 os,.bool ox,.int .i64 op,.int .i64 oq,.int .i64 on,.int .i64 ot],.int .i64 y] w (MadeRl base g q aN (op*y) w):=by
 obtain⟨sh,wi,ra,ta,A,B,C,nl,al,sl,c,d,f,nd,ac,sy,P,nb,cb,xs,An,Au,K,n2,d1,d2,cl,cu,ep,o⟩:=q;simp only at hg hwa ha hal;have L2:=κ (ξ h.o.l2);have L5:=κ (ξ h.o.l5);have L6:=κ (ξ h.o.l6);obtain⟨r,s,Q,k,R⟩:=Ris.at (i:=0) h.o.ris (by show 0<ac.length;have:=L2.o;omega);simp only at Q;subst Q;have ag:=κ k;have S:=R aN (by show aN<ac.length;rw[←L2.o];exact ha);have l:Hid (∀W,Below w.heap.size w W→W.cell? (α r (s+aN))=some (ι (gI ac aN))):=fun W hb=>(hb.cell (p:=(α r (s+aN))) k).trans S
 have t:=hwa aN (by rw[←L2.o];exact ha);have L:=fun W hn hu=>release_fresh An Au d1 d2 cl cu (gI ac aN) (op*y) W hn hu hg t hx.1 hx.2
 obtain⟨UU,x⟩:=ν (Cpl.relU cl cu (gI ac aN) (op*y));obtain⟨bb,T⟩:=ν (Cpl.relF cl cu (gI ac aN) (op*y));obtain⟨nU,z⟩:=ν UU.length;unfold MadeRelF at L;rw[←x,←T,←L5.o,←L6.o]at L;simp only[←z]at L;have ae:=κ x;have af:=κ z;obtain⟨av,E⟩:=ν (gI ac aN);rw[←E]at L l t;have ah:=κ E;have ai:decide ((aN:Int)<(al:Int))=true:=by simp;omega
 have aj:IntKind.i64.wrap (op*y)=op*y:=by rw[IntKind.wrap_i64];omega
 clear x T z E t S R k hwa hg;have U:=κ (β w (.cells (vO (aN:Int) os ox op oq on ot) 75));have V:Hid (Blk (w.alloc (.cells (vO (aN:Int) os ox op oq on ot) 75)) w.heap.size 75 (vO (aN:Int) os ox op oq on ot)):=Blk.fresh w _ _;have F:=κ (Mm_below h.o U.o);have X:=κ ((Mm_lt h.o).1);have m:=κ (ξ ((Mm_lt h.o).2))
 go_enter Tryz.func100,Tryz.ntmps100
 go_upto_region 1 with fail
 generalize Y:w.heap.size=gO at V ⊢;have ak:=κ Y;clear Y;generalize (w.alloc (.cells (vO (aN:Int) os ox op oq on ot) 75))=w0 at U V F ⊢;let G:World→Prop:=fun O=>O.cell? (α g 8)=some (.slice An K d1)∧O.cell? (α g 9)=some (.slice Au n2 d2)∧O.cell? (α g 5)=some (.slice (some (α r s)) al d)∧O.cell? (α gO 0)=some (ι (aN:Int))∧O.cell? (α gO 3)=some (ι op)∧O.cell? (α r (s+aN))=some (ι av)
 have b:Hid (G (w0.drew)):=⟨F.o.blk.cell 8,F.o.blk.cell 9,F.o.blk.cell 5,V.o.cell 0,V.o.cell 3,l.o _ (Below.drew U.o)⟩;refine Ω G [24] ?_;refine jA 0 b.o ?_;refine jA 1 b.o ?_;refine jA 2 b.o ?_;refine jA 3 b.o ?_;refine jB 4 b.o ?_;refine jA 5 b.o ?_;refine jA 6 b.o ?_;refine jA 7 b.o ?_;refine jA 8 b.o ?_;refine jB 9 b.o ?_;refine jA 10 b.o ?_;refine jB 11 b.o ?_;refine jA 12 b.o ?_;refine jB 13 b.o ?_;refine jA 14 b.o ?_;refine jB 15 b.o ?_;refine jA 16 b.o ?_;refine jA 17 b.o ?_;refine jN 18 fun K' Z=>?_
 go_simp;refine(L _ (κ (Rd.below' F.o.cn (Below.drew ψ) τ)) (κ (Rd.below' F.o.cr (Below.drew ψ) τ))).mono ?_;rintro e w1 ⟨A5,d5,A6,d6,rfl,aa,ab,ad,H,I⟩;have J:=κ (CrdB.below_step (Below.drew ψ) ad);have U1:=κ (CrdB.below_step U.o J.o);have M1:=κ (Mm_below F.o J.o);have O1:=κ (Blk.below' V.o J.o);have N5:=κ aa;have R5:=κ ab;have S0:Hid (w.heap.size≤w0.drew.heap.size):=U.o.size;have F5:Hid (Far g P A5 (nds cl)):=Far_new X.o m.o (fun a ha=>Nat.le_trans S0.o (H a ha));have F6:Hid (Far g P A6 (ints UU)):=Far_new X.o m.o (fun a ha=>Nat.le_trans S0.o (I a ha));have G5:=κ (fun a ha=>Nat.le_trans S0.o (H a ha));have G6:=κ (fun a ha=>Nat.le_trans S0.o (I a ha));have j:Hid (G w1):=⟨M1.o.blk.cell 8,M1.o.blk.cell 9,M1.o.blk.cell 5,O1.o.cell 0,O1.o.cell 3,l.o _ U1.o⟩;clear aa ab ad H I L
 go_wp2_with fail
 refine Z.out _ _ j.o ?_;clear Z K';refine jP ?_;refine jA 19 j.o ?_;refine jA 20 j.o ?_;refine jA 21 j.o ?_;refine jA 22 j.o ?_;refine jA 23 j.o ?_;have K1:Hid (Blk w1 g 144 (vQ sh wi ra ta A nl c (some (α r s)) al d C sl f P nb cb An K d1 Au n2 d2 ep o)):=M1.o.blk;have M2:Hid (Mm base ((w1.setCell (α g 8) (.slice A5 K d5)).setCell (α g 9) (.slice A6 nU d6)) g ⟨sh,wi,ra,ta,A,some (α r s),C,nl,al,sl,c,d,f,nd,ac,sy,P,nb,cb,xs,A5,A6,K,nU,d5,d6,cl,UU,ep,o⟩):=Mm_cr M1.o N5.o R5.o F5.o F6.o L5.o af.o
 have n:MadeRl base g ⟨sh,wi,ra,ta,A,some (α r s),C,nl,al,sl,c,d,f,nd,ac,sy,P,nb,cb,xs,An,Au,K,n2,d1,d2,cl,cu,ep,o⟩ aN (op*y) w (.returned (.tuple #[])) ((w1.setCell (α g 8) (.slice A5 K d5)).setCell (α g 9) (.slice A6 nU d6)):=
  ⟨rfl,A5,A6,d5,d6,nU,by have h2:=M2.o;rw[ae.o]at h2;exact h2,G5.o,G6.o,Kp_setg (Kp_setg (Kp_of_below U1.o) 8 _) 9 _⟩
 have HF:=κ n;clear n M2;obtain⟨k0,k1,k2,k3,k4,k5,k6,k7,k8,k9,am,an,f0,f1,f2,f3,f4,f5,f6,f7,f8,f9,ao,ap⟩:=q12_of K1.o;refine jV 24 fun K' Z=>?_
 go_simp;refine Z.out _ _ ?_;clear Z K';refine jP ?_;refine Δ ?_
 go_wp2_with fail
 exact bodyPost_end (v:= .tuple #[]) (by simp[results,Tryz.results100,go_sem]) rfl HF.o
end Mdr
end Go.Proofs.YtcccdikhfgpamaaGreat
