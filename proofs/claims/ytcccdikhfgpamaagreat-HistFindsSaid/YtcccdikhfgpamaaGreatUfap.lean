/- Texts side by side. -/
import Derived.Test.YtcccdikhfgpamaaGreatUfaf
import Derived.Test.YtcccdikhfgpamaaGreatUfat
set_option linter.unusedVariables false
set_option linter.unusedSimpArgs false
set_option maxRecDepth 100000
set_option maxHeartbeats 16000000
namespace Go.Proofs.YtcccdikhfgpamaaGreat
open Kap Go.ChangeShapes Go.WideShapes Go.ChangeAt Go.RowKit Mem Tre Ref3 Law3 CrdB CrdC
namespace Bki
open Abv Bkp Bks Bkf Stk
theorem look_any(sk wi ra ta:Int)(A1 A2 A3:Option Addr)(n1 n2 n3 c1 c2 c3:Nat)(A C:Option Addr)(nr no c d:Nat)(rl:List Rc)(bk:Bk)(od:Od)(w:World)(sh ca:Int)(hsh:Hid (sh=bk.sh∧ca=bk.ca))(hnr:Hid (nr=bk.rows.length))(hno:Hid (no=bk.op.length))(hm:Hid (Bm w A C rl bk))(hf:Hid (FewB bk)):
  Calls Tryz.prog 93 #[.agg #[.int .i64 sk,.int .i64 wi,.int .i64 ra,.int .i64 ta,.slice A1 n1 c1,.slice A2 n2 c2,.slice A3 n3 c3],.agg #[.int .i64 sh,.int .i64 ca,.slice A nr c,.slice C no d],odA od] w (fun r w'=>r= .returned (.int .i64 (lookF ra ta bk od))∧Below w.heap.size w w'):=by
 obtain⟨a,s,x,p,q,n,t⟩:=od;show Calls Tryz.prog 93 #[.agg #[.int .i64 sk,.int .i64 wi,.int .i64 ra,.int .i64 ta,.slice A1 n1 c1,.slice A2 n2 c2,.slice A3 n3 c3],.agg #[.int .i64 sh,.int .i64 ca,.slice A nr c,.slice C no d],.agg #[.int .i64 a,.int .i64 s,.bool x,.int .i64 p,.int .i64 q,.int .i64 n,.int .i64 t]] w (fun r w'=>r= .returned (.int .i64 (lookF ra ta bk ⟨a,s,x,p,q,n,t⟩))∧Below w.heap.size w w');have H:Hid (Below w.heap.size w (((w.alloc (.cells (vC sk wi ra ta A1 n1 c1 A2 n2 c2 A3 n3 c3) 43)).alloc (.cells (vB sh ca A nr c C no d) 181)).alloc (.cells (vO a s x p q n t) 75))):=((ψ.alloc τ _).alloc (by simp) _).alloc (by simp<;>omega) _;have Z:Hid (Blk (((w.alloc (.cells (vC sk wi ra ta A1 n1 c1 A2 n2 c2 A3 n3 c3) 43)).alloc (.cells (vB sh ca A nr c C no d) 181)).alloc (.cells (vO a s x p q n t) 75)) w.heap.size 43 (vC sk wi ra ta A1 n1 c1 A2 n2 c2 A3 n3 c3)):=((Blk.fresh w _ _).alloc _).alloc _;have K1:Hid (Blk (((w.alloc (.cells (vC sk wi ra ta A1 n1 c1 A2 n2 c2 A3 n3 c3) 43)).alloc (.cells (vB sh ca A nr c C no d) 181)).alloc (.cells (vO a s x p q n t) 75)) (w.heap.size+1) 181 (vB sh ca A nr c C no d)):=Blk.alloc (blk_hd (by simp)) _;have K2:=κ (δ ((w.alloc (.cells (vC sk wi ra ta A1 n1 c1 A2 n2 c2 A3 n3 c3) 43)).alloc (.cells (vB sh ca A nr c C no d) 181)) 75 (vO a s x p q n t) (w.heap.size+2));have I:=κ (hm.o.below H.o)
 go_enter Tryz.func93,Tryz.ntmps93
 go_upto_region 1 with fail
 clear hm;generalize (((w.alloc (.cells (vC sk wi ra ta A1 n1 c1 A2 n2 c2 A3 n3 c3) 43)).alloc (.cells (vB sh ca A nr c C no d) 181)).alloc (.cells (vO a s x p q n t) 75))=w0 at H Z K1 K2 I ⊢;obtain⟨ac,m⟩:=ν w.heap.size;obtain⟨gB,E⟩:=ν (w.heap.size+1);obtain⟨gO,F⟩:=ν (w.heap.size+2);have J0:=κ (ζ m Z.o);have J1:=κ (ζ E K1.o);have J2:=κ (ζ F K2.o);simp only[←F];simp only[←E];simp only[←m];clear m E F Z K1 K2;obtain⟨e0,e1,e2,e3,e4,e5,e6⟩:=q7_of J0.o;obtain⟨k0,k1,k2,k3⟩:=q4_of J1.o;obtain⟨o0,o1,o2,o3,o4,o5,o6⟩:=q7_of J2.o
 go_wp2_with fail
 refine(hasR_any A nr c a _).mono ?_;by_cases hin:inQ nr a=true
 case neg=>
  have f:Hid (lookF ra ta bk ⟨a,s,x,p,q,n,t⟩=3):=by
   show _=_;unfold lookF;rw[←hnr.o];simp only[]at hin ⊢;rw[if_neg hin]
  have y:inQ nr a=false:=by simpa using hin
  rw[y];clear hin y;rintro e J ⟨rfl,rfl⟩
  go_wp2_with fail
  go_ret;exact⟨congrArg Ending.returned (congrArg (Value.int .i64) f.o.symm),H.o⟩
 case pos=>
  have aa:=inQ_of hin;obtain⟨i,hi⟩: ∃i:Nat,a=i:=⟨a.toNat,by omega⟩;subst hi;have K:i<nr:=by omega
  have L:=κ hin;rw[hin];clear hin aa;rintro e J ⟨rfl,rfl⟩;have v:Hid (i<rl.length):=by show _<_;rw[I.o.len,←hnr.o];exact K
  obtain⟨b,o,hA,hb,O⟩:=Rcs.at I.o.r (by have:=v.o;omega);have P:=O i v.o;have HR:=κ (gC_row I.o.e v.o);have X:=κ (I.o.n i v.o);have Q:=κ (hf.o.nl i (by rw[←hnr.o];exact K));subst hA
  have k:Hid (lookF ra ta bk ⟨(i:Int),s,x,p,q,n,t⟩=(if (gR bk.rows i).ns.contains n=true then 9
   else if t<(gR bk.rows i).sec then 10
   else if t=(gR bk.rows i).sec∧ra≤(gR bk.rows i).cnt then 10
   else if ta≤bk.op.length then 11 else 0)):=by
   show _=_;unfold lookF;rw[←hnr.o];simp only[];rw[if_pos L.o,Int.toNat_natCast]
  rw[←HR.o]at k Q;rw[←hno.o]at k;clear O L HR I;generalize gC rl i=R at P X Q k;obtain⟨S,T,Y,g,j⟩:=R;obtain⟨r0,r1,r2⟩:=P;simp only[]at r0 r1 r2 X Q k;obtain⟨nn,G⟩:=ν Y.length;rw[←G]at r0 Q;have ab:=κ G;clear G;have z:=κ (H.o.alloc H.o.size (.cells (vR S nn T g j) 243));have KA:=κ (Blk.fresh J 243 (vR S nn T g j));have U:=β J (.cells (vR S nn T g j) 243);have L0:=κ (Blk.below' J0.o U);have L1:=κ (Blk.below' J1.o U);have L2:=κ (Blk.below' J2.o U);have V:=η X.o U
  go_upto_region 4 with fail
  clear U J0 J1 J2 X e0 e1 e2 e3 e4 e5 e6 k0 k1 k2 k3 o0 o1 o2 o3 o4 o5 o6 H;generalize J.alloc (.cells (vR S nn T g j) 243)=w2 at z KA L0 L1 L2 V ⊢;generalize J.heap.size=ad at KA ⊢;obtain⟨e0,e1,e2,e3,e4,e5,e6⟩:=q7_of L0.o;obtain⟨k0,k1,k2,k3⟩:=q4_of L1.o;obtain⟨o0,o1,o2,o3,o4,o5,o6⟩:=q7_of L2.o;obtain⟨m0,m1,m2⟩:=q3_of KA.o
  go_wp2_with fail
  refine(contains_any S nn T Y n _ ab V (by have:=Q.o;omega)).mono ?_;by_cases c1:Y.contains n=true
  ·rw[c1];have f:Hid (lookF ra ta bk ⟨(i:Int),s,x,p,q,n,t⟩=9):=by show _=_;rw[k.o,if_pos c1]
   clear c1;rintro e w3 ⟨rfl,rfl⟩
   go_wp2_with fail
   go_ret;exact⟨congrArg Ending.returned (congrArg (Value.int .i64) f.o.symm),z.o⟩
  ·have W:Y.contains n=false:=by simpa using c1
   rw[W];have l:Hid (lookF ra ta bk ⟨(i:Int),s,x,p,q,n,t⟩=(if t<g then 10 else if t=g∧ra≤j then 10 else if ta≤(no:Int) then 11 else 0)):=by show _=_;rw[k.o,if_neg c1]
   clear c1 W k;rintro e w3 ⟨rfl,rfl⟩;by_cases c2:t<g
   ·have t2:decide (t<g)=true:=by simp[c2]
    have f:Hid (lookF ra ta bk ⟨(i:Int),s,x,p,q,n,t⟩=10):=by show _=_;rw[l.o,if_pos c2]
    go_wp2_with fail
    go_ret;exact⟨congrArg Ending.returned (congrArg (Value.int .i64) f.o.symm),z.o⟩
   ·have t2:decide (t<g)=false:=by simp[c2]
    by_cases c3:t=g
    ·have t3:(t==g)=true:=by simp[c3]
     by_cases c4:ra≤j
     ·have t4:decide (ra≤j)=true:=by simp[c4]
      have f:Hid (lookF ra ta bk ⟨(i:Int),s,x,p,q,n,t⟩=10):=by show _=_;rw[l.o,if_neg c2,if_pos ⟨c3,c4⟩]
      clear c3
      go_wp2_with fail
      go_ret;exact⟨congrArg Ending.returned (congrArg (Value.int .i64) f.o.symm),z.o⟩
     ·have t4:decide (ra≤j)=false:=by simp[c4]
      by_cases c5:ta≤(no:Int)
      ·have t5:decide (ta≤(no:Int))=true:=by simp[c5]
       have f:Hid (lookF ra ta bk ⟨(i:Int),s,x,p,q,n,t⟩=11):=by show _=_;rw[l.o,if_neg c2,if_neg (fun h=>c4 h.2),if_pos c5]
       clear c3
       go_wp2_with fail
       go_ret;exact⟨congrArg Ending.returned (congrArg (Value.int .i64) f.o.symm),z.o⟩
      ·have t5:decide (ta≤(no:Int))=false:=by simp[c5]
       have f:Hid (lookF ra ta bk ⟨(i:Int),s,x,p,q,n,t⟩=0):=by show _=_;rw[l.o,if_neg c2,if_neg (fun h=>c4 h.2),if_neg c5]
       clear c3
       go_wp2_with fail
       go_ret;exact⟨congrArg Ending.returned (congrArg (Value.int .i64) f.o.symm),z.o⟩
    ·have t3:(t==g)=false:=by simp[c3]
     by_cases c5:ta≤(no:Int)
     ·have t5:decide (ta≤(no:Int))=true:=by simp[c5]
      have f:Hid (lookF ra ta bk ⟨(i:Int),s,x,p,q,n,t⟩=11):=by show _=_;rw[l.o,if_neg c2,if_neg (fun h=>c3 h.1),if_pos c5]
      go_wp2_with fail
      go_ret;exact⟨congrArg Ending.returned (congrArg (Value.int .i64) f.o.symm),z.o⟩
     ·have t5:decide (ta≤(no:Int))=false:=by simp[c5]
      have f:Hid (lookF ra ta bk ⟨(i:Int),s,x,p,q,n,t⟩=0):=by show _=_;rw[l.o,if_neg c2,if_neg (fun h=>c3 h.1),if_neg c5]
      go_wp2_with fail
      go_ret;exact⟨congrArg Ending.returned (congrArg (Value.int .i64) f.o.symm),z.o⟩
end Bki
namespace Rsf
open Fix3 Crd Cpl Own Res
def MadeResF(l:List (Int×Int))(u:List Int)(p:Int×Int)(w:World)(e:Ending)(w':World):Prop:=
 ∃A c A' c',e= .returned (.tuple #[.agg #[.slice A l.length c,.slice A' u.length c'],.int .i64 p.1,.int .i64 p.2])∧Nds w' w'.heap.size A l∧Ris w' w'.heap.size A' u∧Below w.heap.size w w'∧
  (∀a,A=some a→w.heap.size≤a.block)∧(∀a,A'=some a→w.heap.size≤a.block)
variable {c:Nat} {A:Option Addr} {w:World}
theorem madeResF_mk{l:List (Int×Int)}{u u':List Int}{p:Int×Int}{a b:Int}{A':Option Addr}{c':Nat}{w':World}(fa: ∀a,A=some a→w.heap.size≤a.block)(fb: ∀a,A'=some a→w.heap.size≤a.block)(hu:u=u')(hp:p=(a,b))(h1:Nds w' w'.heap.size A l)(h2:Ris w' w'.heap.size A' u')(hb:Below w.heap.size w w'):
  MadeResF l u p w (.returned (.tuple #[.agg #[.slice A l.length c,.slice A' u'.length c'],.int .i64 a,.int .i64 b])) w':=by
 subst hu;subst hp;exact⟨A,c,A',c',rfl,h1,h2,hb,fa,fb⟩
theorem own_fresh{base:Nat}{e:TypeId}{size n:Nat}{xs:List Value}(h:w.ownsRow base e size (.slice A n c) n xs)(a:Addr)(ha:A=some a):base≤a.block:=by
 rcases h.2 with⟨hv,_⟩|⟨g,b,d,hv,f,_⟩
 ·injection hv with hA
  rw[ha]at hA;cases hA
 ·injection hv with hA
  rw[ha]at hA;injection hA with hA
  subst hA;exact f
theorem reserve_fresh(A A':Option Addr)(c c':Nat)(l:List (Int×Int))(u:List Int)(n x:Int)(w:World)(hl:Hid (Nds w w.heap.size A l))(hu:Hid (Ris w w.heap.size A' u))(hg:GoodSt l u)(hn:inI n)(hx0: -9223372036854775808≤x)(hx1:x≤9223372036854775807):
  Calls Tryz.prog 94 #[.agg #[.slice A l.length c,.slice A' u.length c'],.int .i64 n,.int .i64 x] w (MadeResF l (resU l u n x) (resF l u n x) w):=by
 have hr:=κ hg.right;have hw:=κ hg.wf;have ak:=κ hg.wfi;have g1:=hg.few;have y:(l.length:Int)≤32:=by omega
 have g3:(u.length:Int)≤32:=by rw[hg.len];omega
 have I:=κ hg;obtain⟨P,hP⟩:=ν (pathF l 3 n);have HP:=κ hP;have p1:P.length≤3:=by rw[hP];exact path_le3 _ _ _
 clear hP hg
 go_enter Tryz.func94,Tryz.ntmps94
 go_wp2_with fail
 refine(start_own A A' c c' l u w hl hu y g3).mono ?_;rintro e w1 ⟨Y,E,Z,z,rfl,s⟩;have f0:=χ (s.k3.cell 0);have f1:=χ (s.k3.cell 1);have z0:=s.k3.thaw 0;have z1:=s.k3.thaw 1;have j:=κ s.store;have FA:Hid (∀a,Y=some a→w.heap.size≤a.block):=fun a h=>by have:=own_fresh s.o1 a h;omega
 have FB:Hid (∀a,Z=some a→w.heap.size≤a.block):=fun a h=>by have:=own_fresh s.o2 a h;omega
 clear s hl hu
 go_wp2_with fail
 generalize (w1.setCell (α w.heap.size 0) (.slice Y l.length E)).setCell (α w.heap.size 1) (.slice Z u.length z)=W2 at j ⊢;clear f0 f1 z0 z1;refine(pathOf_any Y Z E z l u n W2 (Rd.of_own j.o.o1) (Rd.of_own j.o.o2) hw ak (by omega) (by omega) hn hr.o).mono ?_;rintro e W3 ⟨A3,c3,rfl,aa,ag,ah⟩;have al:=κ ag;have am:=κ j.o.o2;have aM:w.heap.size+2≤W2.heap.size:=j.o.k6.lt;rw[←HP.o]at aa ⊢;have HR:=κ aa;have d:=κ (j.o.below ah);clear j aa ah ag;have f0:=χ (d.o.k3.cell 0);have f1:=χ (d.o.k3.cell 1);have r0:=χ (d.o.k6.cell 0);have r1:=χ (d.o.k6.cell 1);have y0:=d.o.k6.thaw 0;have y1:=d.o.k6.thaw 1;by_cases hp0:P.length=0
 ·have q0:((P.length:Int)==0)=true:=beq_iff_eq.2 (by omega);have q:Hid (resF l u n x=(18,-1)):=by show _=_;rw[resF,←HP.o,if_pos hp0]
  have r:Hid (resU l u n x=u):=by show _=_;rw[resU,q.o];rfl
  obtain⟨t1,t2,t3,t4,t5⟩:=fin_st d.o.o1 d.o.o2 d.o.k6 (by omega) (by omega) d.o.bl (.slice Y l.length E) (.slice Z u.length z);have T:=κ t1;have U:=κ t2;clear hp0 t1 t2
  go_wp2_with fail
  exact bodyPost_ret (v:= .tuple #[.agg #[.slice Y l.length E,.slice Z u.length z],ι 18,ι (-1)]) (by simp[results,Tryz.results94,go_sem,t4,t5]) rfl (madeResF_mk FA.o FB.o r.o q.o T.o U.o t3)
 have q0:((P.length:Int)==0)=false:=beq_eq_false_iff_ne.2 (by omega);by_cases hx:x<0
 ·have q:Hid (resF l u n x=(1,-1)):=by show _=_;rw[resF,←HP.o,if_neg hp0,if_pos hx]
  have r:Hid (resU l u n x=u):=by show _=_;rw[resU,q.o];rfl
  obtain⟨t1,t2,t3,t4,t5⟩:=fin_st d.o.o1 d.o.o2 d.o.k6 (by omega) (by omega) d.o.bl (.slice Y l.length E) (.slice Z u.length z);have T:=κ t1;have U:=κ t2;clear hp0 t1 t2
  go_wp2_with fail
  exact bodyPost_ret (v:= .tuple #[.agg #[.slice Y l.length E,.slice Z u.length z],ι 1,ι (-1)]) (by simp[results,Tryz.results94,go_sem,t4,t5]) rfl (madeResF_mk FA.o FB.o r.o q.o T.o U.o t3)
 have q:Hid (resF l u n x=resS l u x P 12):=by show _=_;rw[resF,←HP.o,if_neg hp0,if_neg hx]
 have f:=κ (d.o.below (ψ.alloc τ (.cells #[ι 12,ι 13,ι 14] 247)));have ab:Hid (Ris (W3.alloc (.cells #[ι 12,ι 13,ι 14] 247)) (W3.alloc (.cells #[ι 12,ι 13,ι 14] 247)).heap.size A3 P):=Rd.below' HR.o (ψ.alloc τ _) (by simp);have KR:=κ (Blk.fresh W3 247 #[ι 12,ι 13,ι 14]);have aN:decide (x<0)=false:=by simp;omega
 have H:Hid (Apart u.length P):=by rw[HP.o];exact apart_path I.o.okt I.o.len n
 clear hp0 f0 f1 r0 r1 y0 y1
 go_wp2_with fail
 generalize W3.alloc (.cells #[ι 12,ι 13,ι 14] 247)=W4 at f ab KR ⊢;have an:=d.o.k6.lt;generalize W3.heap.size=gR at KR an ⊢;have f0:=χ (f.o.k3.cell 0);have f1:=χ (f.o.k3.cell 1);have V:=fun k hk=>(World.ownsRow.lt am.o k hk).2
 obtain⟨y,rfl,aO,aP,_,J,K⟩:=own_at f.o.o2 (by rw[I.o.len];have:=I.o.one;omega);obtain⟨L,rfl,aQ,aR,_,ai,ao⟩:=own_at2 f.o.o1 (by have:=I.o.one;omega);have aS:=V y rfl;have ap:=κ ai;have aq:=κ J;clear V;have aT:=κ K;clear ai J ao K
 go_loopg [32] P.length (fun g ar W=> ∃k:Nat,k+g=P.length∧ar= ι k∧Hid (resS l u x (P.drop k) (12+k)=resS l u x P 12)∧W4=W)
 case atStart=>exact⟨0,by omega,rfl,rfl,rfl⟩
 case round=>
  obtain⟨k,hk,rfl,O,rfl⟩:=hrel;by_cases hlt:(k:Int)<(P.length:Int)
  ·obtain⟨g,rfl⟩: ∃g,gk=g+1:=⟨gk-1,by omega⟩;have hm:=H.o.1 k (by omega);obtain⟨m,C⟩:=ν (gI P k);have HM:=κ C;rw[←C]at hm;obtain⟨au,av⟩:=hm;obtain⟨b,o,rfl,hb,Q⟩:=Ris.at (i:=k) ab.o (by omega);have d0:=Q k (by omega);rw[←C]at d0;have R:m.toNat<l.length:=by rw[←I.o.len];omega
   have aw:m<l.length:=by omega
   have d1:=(aq.o m.toNat (by omega)).1;have d2:=(ap.o m.toNat R).2.1;have ac:=I.o.uok m.toNat (by omega);have ad:=I.o.okt m.toNat R;obtain⟨ax,ay⟩:=ac;obtain⟨_,_,az,aA,_⟩:=ad;clear Q C;by_cases hfit:nC l m.toNat-gI u m.toNat<x
   ·have F:Hid (resF l u n x=(12+(k:Int),m)):=by
     show _=_;rw[q.o,←O.o,resS_no (by omega) (by rw[←HM.o];exact hfit),HM.o]
    have r:Hid (resU l u n x=u):=by
     show _=_;rw[resU,F.o,if_neg (by show ¬(12+(k:Int))=0;omega)]
    obtain⟨t1,t2,t3,t4,t5⟩:=fin_st f.o.o1 f.o.o2 f.o.k6 (by omega) (by omega) f.o.bl (.slice (some ⟨L,0,none⟩) l.length E) (.slice (some ⟨y,0,none⟩) u.length z);have T:=κ t1;have U:=κ t2;have r0:=χ (f.o.k6.cell 0);have r1:=χ (f.o.k6.cell 1);have y0:=f.o.k6.thaw 0;have y1:=f.o.k6.thaw 1;have aU:(k:Int)<3:=by omega
    have aV:k<3:=by omega
    have e0:W4.cell? (α gR k)=some (ι (12+(k:Int))):=by
     rw[KR.o.cell];have:k=0∨k=1∨k=2:=by omega
     rcases this with rfl|rfl|rfl<;>rfl
    have e1:((W4.setCell (α (w.heap.size+1) 0) (.slice (some (α L 0)) l.length E)).setCell (α (w.heap.size+1) 1) (.slice (some (α y 0)) u.length z)).cell? (α gR k)=some (ι (12+(k:Int))):=by
     rw[(blk_far (blk_far KR.o (p:=⟨w.heap.size+1,0,none⟩) (by simp;omega) _) (p:=⟨w.heap.size+1,1,none⟩) (by simp;omega) _).cell,←KR.o.cell];exact e0
    clear t1 t2;by_cases hbig:gI u m.toNat+x≤9223372036854775807
    ·have i1:=inB_t (by omega) hbig;have i2:=numV_t i1
     go_wp2_with (go_at_call 135;refine(add_any _ _ _ (by omega) (by omega) (by omega) (by omega)).mono ?_;rintro e W ⟨rfl,rfl⟩)
     go_region
     all_goals
      go_wp2_with fail
      exact bodyPost_ret (v:= .tuple #[.agg #[.slice (some (α L 0)) l.length E,.slice (some (α y 0)) u.length z],ι (12+(k:Int)),ι m]) (by simp[results,Tryz.results94,go_sem,t4,t5]) rfl (madeResF_mk FA.o FB.o r.o F.o T.o U.o t3.drew)
    ·have i1:inB (gI u m.toNat+x)=false:=inB_f (by omega)
     go_wp2_with (go_at_call 135;refine(add_any _ _ _ (by omega) (by omega) (by omega) (by omega)).mono ?_;rintro e W ⟨rfl,rfl⟩)
     go_region
     all_goals
      go_wp2_with fail
      exact bodyPost_ret (v:= .tuple #[.agg #[.slice (some (α L 0)) l.length E,.slice (some (α y 0)) u.length z],ι (12+(k:Int)),ι m]) (by simp[results,Tryz.results94,go_sem,t4,t5]) rfl (madeResF_mk FA.o FB.o r.o F.o T.o U.o t3.drew)
   ·have i1:inB (gI u m.toNat+x)=true:=inB_t (by omega) (by omega);have i2:=numV_t i1
    have aB:Hid (resS l u x (P.drop (k+1)) (12+((k+1:Nat):Int))=resS l u x P 12):=by
     show _=_;have aC:=resS_go (l:=l) (u:=u) (p:=P) (x:=x) (c:=12+(k:Int)) (k:=k) (by omega) (by rw[←HM.o];exact hfit);rw[←O.o,aC]
     congr 1
    go_wp2_with (go_at_call 135;refine(add_any _ _ _ (by omega) (by omega) (by omega) (by omega)).mono ?_;rintro e W ⟨rfl,rfl⟩)
    go_roundg g
    case measure=>omega
    case rel=>exact⟨k+1,by omega,by go_num,aB,rfl⟩
  ·have ae:Hid (resF l u n x=(0,-1)):=by
    show _=_;rw[q.o,←O.o,show k=P.length by omega];exact resS_end
   have aD:Hid (resU l u n x=addF u P x):=by
    show _=_;rw[resU,ae.o,if_pos rfl,←HP.o]
   have aE:Hid (∀i,i<P.length→x≤nC l (gI P i).toNat-gI u (gI P i).toNat):=by
    have L:(resS l u x P 12).1=0:=by rw[←q.o,ae.o]
    exact resS_ok P 12 (by decide) L
   go_wp2_with fail
   go_loopg [67] P.length (fun g aF W=> ∃k:Nat,k+g=P.length∧aF= ι k∧Hid (Owned w W (some (α L 0)) (some (α y 0)) E z l (addF u (P.take k) x))∧Hid (Ris W W.heap.size A3 P))
   case atStart=>exact⟨0,by omega,rfl,by rw[List.take_zero,addF_nil];exact f,ab⟩
   case round=>
    obtain⟨k,hk,rfl,j,HR⟩:=hrel;have f0:=χ (j.o.k3.cell 0)
    have f1:wr.cell? (α w.heap.size 1)=some (.slice (some (α y 0)) u.length z):=by
     have:=j.o.k3.cell 1;rw[addF_len]at this;exact this
    by_cases hlt:(k:Int)<(P.length:Int)
    ·obtain⟨g,rfl⟩: ∃g,gk=g+1:=⟨gk-1,by omega⟩;have hm:=H.o.1 k (by omega);have aG:=aE.o k (by omega);have af:=addF_at (x:=x) H.o (show k<P.length by omega);have G:=addF_step (x:=x) H.o (show k<P.length by omega);obtain⟨m,C⟩:=ν (gI P k);rw[←C]at hm aG af G;obtain⟨au,av⟩:=hm;obtain⟨b,o,rfl,hb,Q⟩:=Ris.at (i:=k) HR.o (by omega);have d0:=Q k (by omega);rw[←C]at d0;have R:m.toNat<l.length:=by rw[←I.o.len];omega
     have aw:m<u.length:=by omega
     obtain⟨aH,aI,aW,aX,_,J,K⟩:=own_at j.o.o2 (by rw[addF_len];omega);obtain rfl:y=aH:=by injection aI with e;injection e
     have aj:=J m.toNat (by rw[addF_len];omega);rw[af]at aj;obtain⟨d1,d2⟩:=aj;have S:=K m.toNat (gI u m.toNat+x) (by rw[addF_len];omega);rw[G]at S;have ac:=I.o.uok m.toNat (by omega);have ad:=I.o.okt m.toNat R;obtain⟨ax,ay⟩:=ac;obtain⟨_,_,az,aA,_⟩:=ad
     have aJ:Hid (Owned w (wr.setCell (α y m.toNat) (ι (gI u m.toNat+x))) (some (α L 0)) (some (α y 0)) E z l (addF u (P.take (k+1)) x)):=by
      refine⟨own_other j.o.o1 j.o.o2 (by decide) _ _,?_,?_,blk_far j.o.k6 (by simp;omega) _,j.o.bl.setCell (by simp;omega) _⟩
      ·rw[addF_len]at S ⊢;exact S
      ·have:=blk_far j.o.k3 (p:=(α y m.toNat)) (by simp;omega) (ι (gI u m.toNat+x));rw[addF_len]at this ⊢;exact this
     have aK:Hid (Ris (wr.setCell (α y m.toNat) (ι (gI u m.toNat+x))) (wr.setCell (α y m.toNat) (ι (gI u m.toNat+x))).heap.size (some (α b o)) P):=by
      refine HR.o.keep' (g:=y) (by omega) ?_ _;intro a ha;have:=al.o a ha;omega
     clear Q C af G J K S
     go_wp2_with fail
     go_roundg g
     case measure=>omega
     case rel=>exact⟨k+1,by omega,by go_num,aJ,aK⟩
    ·have t:Hid (Owned w wr (some (α L 0)) (some (α y 0)) E z l (addF u P x)):=by
      have:k=P.length:=by omega
      subst this;rw[addF_full]at j;exact j
     have aL:Hid ((addF u P x).length=u.length):=addF_len _ _ _;obtain⟨t1,t2,t3,t4,t5⟩:=fin_st t.o.o1 t.o.o2 t.o.k6 (by omega) (by omega) t.o.bl (.slice (some ⟨L,0,none⟩) l.length E) (.slice (some ⟨y,0,none⟩) u.length z);have T:=κ t1;have U:=κ t2;have r0:=χ (t.o.k6.cell 0);have r1:=χ (t.o.k6.cell 1);have y0:=t.o.k6.thaw 0;have y1:=t.o.k6.thaw 1;have X:=κ (madeResF_mk (c:=E) (c':=z) FA.o FB.o aD.o ae.o T.o U.o t3);rw[aL.o]at X;clear t1 t2
     go_wp2_with fail
     exact bodyPost_ret (v:= .tuple #[.agg #[.slice (some (α L 0)) l.length E,.slice (some (α y 0)) u.length z],ι 0,ι (-1)]) (by simp[results,Tryz.results94,go_sem,t4,t5]) rfl X.o
end Rsf
end Go.Proofs.YtcccdikhfgpamaaGreat
