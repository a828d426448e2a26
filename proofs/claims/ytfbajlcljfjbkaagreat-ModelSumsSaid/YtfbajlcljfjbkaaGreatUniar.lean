/- Texts side by side. -/
import Derived.Test.YtfbajlcljfjbkaaGreatUniaf
import Derived.Test.YtfbajlcljfjbkaaGreatUniai
set_option linter.unusedVariables false
set_option linter.unusedSimpArgs false
set_option maxRecDepth 100000
set_option maxHeartbeats 16000000
namespace Go.Proofs.YtfbajlcljfjbkaaGreat
open Kap Go.ChangeShapes Go.WideShapes Go.ChangeAt Go.RowKit Mem Tre Ref3 Law3 CrdB CrdC
namespace Bki
open Abv Bkp Bks Bkf Stk
theorem look_any(sk wi ra ta:Int)(A1 A2 A3:Option Addr)(n1 n2 n3 c1 c2 c3:Nat)(A C:Option Addr)(nr no c d:Nat)(rl:List Rc)(bk:Bk)(od:Od)(w:World)(sh ca:Int)(hsh:Hid (sh=bk.sh∧ca=bk.ca))(hnr:Hid (nr=bk.rows.length))(hno:Hid (no=bk.op.length))(hm:Hid (Bm w A C rl bk))(hf:Hid (FewB bk)):
  Calls Tryz.prog 70 #[.agg #[.int .i64 sk,.int .i64 wi,.int .i64 ra,.int .i64 ta,.slice A1 n1 c1,.slice A2 n2 c2,.slice A3 n3 c3],.agg #[.int .i64 sh,.int .i64 ca,.slice A nr c,.slice C no d],odA od] w (fun r w'=>r= .returned (.int .i64 (lookF ra ta bk od))∧Below w.heap.size w w'):=by
 obtain⟨a,s,x,p,q,n,t⟩:=od;show Calls Tryz.prog 70 #[.agg #[.int .i64 sk,.int .i64 wi,.int .i64 ra,.int .i64 ta,.slice A1 n1 c1,.slice A2 n2 c2,.slice A3 n3 c3],.agg #[.int .i64 sh,.int .i64 ca,.slice A nr c,.slice C no d],.agg #[.int .i64 a,.int .i64 s,.bool x,.int .i64 p,.int .i64 q,.int .i64 n,.int .i64 t]] w (fun r w'=>r= .returned (.int .i64 (lookF ra ta bk ⟨a,s,x,p,q,n,t⟩))∧Below w.heap.size w w');have b0:Hid (Below w.heap.size w (((w.alloc (.cells (vC sk wi ra ta A1 n1 c1 A2 n2 c2 A3 n3 c3) 40)).alloc (.cells (vB sh ca A nr c C no d) 75)).alloc (.cells (vO a s x p q n t) 60))):=((ψ.alloc τ _).alloc (by simp) _).alloc (by simp<;>omega) _;have K0:Hid (Blk (((w.alloc (.cells (vC sk wi ra ta A1 n1 c1 A2 n2 c2 A3 n3 c3) 40)).alloc (.cells (vB sh ca A nr c C no d) 75)).alloc (.cells (vO a s x p q n t) 60)) w.heap.size 40 (vC sk wi ra ta A1 n1 c1 A2 n2 c2 A3 n3 c3)):=((Blk.fresh w _ _).alloc _).alloc _;have K1:Hid (Blk (((w.alloc (.cells (vC sk wi ra ta A1 n1 c1 A2 n2 c2 A3 n3 c3) 40)).alloc (.cells (vB sh ca A nr c C no d) 75)).alloc (.cells (vO a s x p q n t) 60)) (w.heap.size+1) 75 (vB sh ca A nr c C no d)):=Blk.alloc (blk_hd (by simp)) _;have K2:=κ (δ ((w.alloc (.cells (vC sk wi ra ta A1 n1 c1 A2 n2 c2 A3 n3 c3) 40)).alloc (.cells (vB sh ca A nr c C no d) 75)) 60 (vO a s x p q n t) (w.heap.size+2));have HM:=κ (hm.out.below b0.out)
 go_enter Tryz.func70,Tryz.ntmps70
 go_upto_region 1 with fail
 clear hm;generalize (((w.alloc (.cells (vC sk wi ra ta A1 n1 c1 A2 n2 c2 A3 n3 c3) 40)).alloc (.cells (vB sh ca A nr c C no d) 75)).alloc (.cells (vO a s x p q n t) 60))=w0 at b0 K0 K1 K2 HM ⊢;obtain⟨gCf,hgCf⟩:=ν w.heap.size;obtain⟨gB,hgB⟩:=ν (w.heap.size+1);obtain⟨gO,hgO⟩:=ν (w.heap.size+2);have J0:=κ (ζ hgCf K0.out);have J1:=κ (ζ hgB K1.out);have J2:=κ (ζ hgO K2.out);simp only[←hgO];simp only[←hgB];simp only[←hgCf];clear hgCf hgB hgO K0 K1 K2;obtain⟨e0,e1,e2,e3,e4,e5,e6⟩:=q7_of J0.out;obtain⟨k0,k1,k2,k3⟩:=q4_of J1.out;obtain⟨o0,o1,o2,o3,o4,o5,o6⟩:=q7_of J2.out
 go_wp2_with fail
 refine(hasR_any A nr c a _).mono ?_;by_cases hin:inQ nr a=true
 case neg=>
  have hfin:Hid (lookF ra ta bk ⟨a,s,x,p,q,n,t⟩=3):=by
   show _=_;unfold lookF;rw[←hnr.out];simp only[]at hin ⊢;rw[if_neg hin]
  have hin':inQ nr a=false:=by simpa using hin
  rw[hin'];clear hin hin';rintro e w1 ⟨rfl,rfl⟩
  go_wp2_with fail
  go_ret;exact⟨congrArg Ending.returned (congrArg (Value.int .i64) hfin.out.symm),b0.out⟩
 case pos=>
  have hia:=inQ_of hin;obtain⟨i,hi⟩: ∃i:Nat,a=i:=⟨a.toNat,by omega⟩;subst hi;have hlt:i<nr:=by omega
  have HIN:=κ hin;rw[hin];clear hin hia;rintro e w1 ⟨rfl,rfl⟩;have hlr:Hid (i<rl.length):=by show _<_;rw[HM.out.len,←hnr.out];exact hlt
  obtain⟨b,o,hA,hb,hcc⟩:=Rcs.at HM.out.r (by have:=hlr.out;omega);have hcs:=hcc i hlr.out;have HR:=κ (gC_row HM.out.e hlr.out);have HN:=κ (HM.out.n i hlr.out);have HL:=κ (hf.out.nl i (by rw[←hnr.out];exact hlt));subst hA
  have HLK:Hid (lookF ra ta bk ⟨(i:Int),s,x,p,q,n,t⟩=(if (gR bk.rows i).ns.contains n=true then 9
   else if t<(gR bk.rows i).sec then 10
   else if t=(gR bk.rows i).sec∧ra≤(gR bk.rows i).cnt then 10
   else if ta≤bk.op.length then 11 else 0)):=by
   show _=_;unfold lookF;rw[←hnr.out];simp only[];rw[if_pos HIN.out,Int.toNat_natCast]
  rw[←HR.out]at HLK HL;rw[←hno.out]at HLK;clear hcc HIN HR HM;generalize gC rl i=R at hcs HN HL HLK;obtain⟨An,cn,ns,sec,cnt⟩:=R;obtain⟨r0,r1,r2⟩:=hcs;simp only[]at r0 r1 r2 HN HL HLK;obtain⟨nn,hnn⟩:=ν ns.length;rw[←hnn]at r0 HL;have HNN:=κ hnn;clear hnn;have bA:=κ (b0.out.alloc b0.out.size (.cells (vR An nn cn sec cnt) 154));have KA:=κ (Blk.fresh w1 154 (vR An nn cn sec cnt));have U0:=β w1 (.cells (vR An nn cn sec cnt) 154);have L0:=κ (Blk.below' J0.out U0);have L1:=κ (Blk.below' J1.out U0);have L2:=κ (Blk.below' J2.out U0);have HNA:=η HN.out U0
  go_upto_region 4 with fail
  clear U0 J0 J1 J2 HN e0 e1 e2 e3 e4 e5 e6 k0 k1 k2 k3 o0 o1 o2 o3 o4 o5 o6 b0;generalize w1.alloc (.cells (vR An nn cn sec cnt) 154)=w2 at bA KA L0 L1 L2 HNA ⊢;generalize w1.heap.size=gR' at KA ⊢;obtain⟨e0,e1,e2,e3,e4,e5,e6⟩:=q7_of L0.out;obtain⟨k0,k1,k2,k3⟩:=q4_of L1.out;obtain⟨o0,o1,o2,o3,o4,o5,o6⟩:=q7_of L2.out;obtain⟨m0,m1,m2⟩:=q3_of KA.out
  go_wp2_with fail
  refine(contains_any An nn cn ns n _ HNN HNA (by have:=HL.out;omega)).mono ?_;by_cases c1:ns.contains n=true
  ·rw[c1];have hfin:Hid (lookF ra ta bk ⟨(i:Int),s,x,p,q,n,t⟩=9):=by show _=_;rw[HLK.out,if_pos c1]
   clear c1;rintro e w3 ⟨rfl,rfl⟩
   go_wp2_with fail
   go_ret;exact⟨congrArg Ending.returned (congrArg (Value.int .i64) hfin.out.symm),bA.out⟩
  ·have c1':ns.contains n=false:=by simpa using c1
   rw[c1'];have HL2:Hid (lookF ra ta bk ⟨(i:Int),s,x,p,q,n,t⟩=(if t<sec then 10 else if t=sec∧ra≤cnt then 10 else if ta≤(no:Int) then 11 else 0)):=by show _=_;rw[HLK.out,if_neg c1]
   clear c1 c1' HLK;rintro e w3 ⟨rfl,rfl⟩;by_cases c2:t<sec
   ·have t2:decide (t<sec)=true:=by simp[c2]
    have hfin:Hid (lookF ra ta bk ⟨(i:Int),s,x,p,q,n,t⟩=10):=by show _=_;rw[HL2.out,if_pos c2]
    go_wp2_with fail
    go_ret;exact⟨congrArg Ending.returned (congrArg (Value.int .i64) hfin.out.symm),bA.out⟩
   ·have t2:decide (t<sec)=false:=by simp[c2]
    by_cases c3:t=sec
    ·have t3:(t==sec)=true:=by simp[c3]
     by_cases c4:ra≤cnt
     ·have t4:decide (ra≤cnt)=true:=by simp[c4]
      have hfin:Hid (lookF ra ta bk ⟨(i:Int),s,x,p,q,n,t⟩=10):=by show _=_;rw[HL2.out,if_neg c2,if_pos ⟨c3,c4⟩]
      clear c3
      go_wp2_with fail
      go_ret;exact⟨congrArg Ending.returned (congrArg (Value.int .i64) hfin.out.symm),bA.out⟩
     ·have t4:decide (ra≤cnt)=false:=by simp[c4]
      by_cases c5:ta≤(no:Int)
      ·have t5:decide (ta≤(no:Int))=true:=by simp[c5]
       have hfin:Hid (lookF ra ta bk ⟨(i:Int),s,x,p,q,n,t⟩=11):=by show _=_;rw[HL2.out,if_neg c2,if_neg (fun h=>c4 h.2),if_pos c5]
       clear c3
       go_wp2_with fail
       go_ret;exact⟨congrArg Ending.returned (congrArg (Value.int .i64) hfin.out.symm),bA.out⟩
      ·have t5:decide (ta≤(no:Int))=false:=by simp[c5]
       have hfin:Hid (lookF ra ta bk ⟨(i:Int),s,x,p,q,n,t⟩=0):=by show _=_;rw[HL2.out,if_neg c2,if_neg (fun h=>c4 h.2),if_neg c5]
       clear c3
       go_wp2_with fail
       go_ret;exact⟨congrArg Ending.returned (congrArg (Value.int .i64) hfin.out.symm),bA.out⟩
    ·have t3:(t==sec)=false:=by simp[c3]
     by_cases c5:ta≤(no:Int)
     ·have t5:decide (ta≤(no:Int))=true:=by simp[c5]
      have hfin:Hid (lookF ra ta bk ⟨(i:Int),s,x,p,q,n,t⟩=11):=by show _=_;rw[HL2.out,if_neg c2,if_neg (fun h=>c3 h.1),if_pos c5]
      go_wp2_with fail
      go_ret;exact⟨congrArg Ending.returned (congrArg (Value.int .i64) hfin.out.symm),bA.out⟩
     ·have t5:decide (ta≤(no:Int))=false:=by simp[c5]
      have hfin:Hid (lookF ra ta bk ⟨(i:Int),s,x,p,q,n,t⟩=0):=by show _=_;rw[HL2.out,if_neg c2,if_neg (fun h=>c3 h.1),if_neg c5]
      go_wp2_with fail
      go_ret;exact⟨congrArg Ending.returned (congrArg (Value.int .i64) hfin.out.symm),bA.out⟩
end Bki
namespace Rsf
open Fix3 Crd Cpl Own Res
def MadeResF(l:List (Int×Int))(u:List Int)(p:Int×Int)(w:World)(e:Ending)(w':World):Prop:=
 ∃A c A' c',e= .returned (.tuple #[.agg #[.slice A l.length c,.slice A' u.length c'],.int .i64 p.1,.int .i64 p.2])∧Nds w' w'.heap.size A l∧Ris w' w'.heap.size A' u∧Below w.heap.size w w'∧
  (∀a,A=some a→w.heap.size≤a.block)∧(∀a,A'=some a→w.heap.size≤a.block)
variable {c:Nat} {A:Option Addr} {w:World}
theorem madeResF_mk{l:List (Int×Int)}{u u':List Int}{p:Int×Int}{a b:Int}{A':Option Addr}{c':Nat}{w':World}(fa: ∀a,A=some a→w.heap.size≤a.block)(fb: ∀a,A'=some a→w.heap.size≤a.block)(hu:u=u')(hp:p=(a,b))(h1:Nds w' w'.heap.size A l)(h2:Ris w' w'.heap.size A' u')(hb:Below w.heap.size w w'):
  MadeResF l u p w (.returned (.tuple #[.agg #[.slice A l.length c,.slice A' u'.length c'],.int .i64 a,.int .i64 b])) w':=by
 subst hu;subst hp;exact⟨A,c,A',c',rfl,h1,h2,hb,fa,fb⟩
theorem own_fresh{base:Nat}{e:TypeId}{size n:Nat}{xs:List Value}(h:w.ownsRow base e size (.slice A n c) n xs)(a:Addr)(ha:A=some a):base≤a.block:=by
 rcases h.2 with⟨hv,_⟩|⟨g,cap,cur,hv,hg,_⟩
 ·injection hv with hA
  rw[ha]at hA;cases hA
 ·injection hv with hA
  rw[ha]at hA;injection hA with hA
  subst hA;exact hg
theorem reserve_fresh(A A':Option Addr)(c c':Nat)(l:List (Int×Int))(u:List Int)(n x:Int)(w:World)(hl:Hid (Nds w w.heap.size A l))(hu:Hid (Ris w w.heap.size A' u))(hg:GoodSt l u)(hn:inI n)(hx0: -9223372036854775808≤x)(hx1:x≤9223372036854775807):
  Calls Tryz.prog 71 #[.agg #[.slice A l.length c,.slice A' u.length c'],.int .i64 n,.int .i64 x] w (MadeResF l (resU l u n x) (resF l u n x) w):=by
 have hr:=κ hg.right;have hw:=κ hg.wf;have hwu:=κ hg.wfi;have g1:=hg.few;have g2:(l.length:Int)≤32:=by omega
 have g3:(u.length:Int)≤32:=by rw[hg.len];omega
 have HG:=κ hg;obtain⟨P,hP⟩:=ν (pathF l 3 n);have HP:=κ hP;have p1:P.length≤3:=by rw[hP];exact path_le3 _ _ _
 clear hP hg
 go_enter Tryz.func71,Tryz.ntmps71
 go_wp2_with fail
 refine(start_own A A' c c' l u w hl hu g2 g3).mono ?_;rintro e w1 ⟨A1,c1,A2,c2,rfl,hpre⟩;have f0:=χ (hpre.k3.cell 0);have f1:=χ (hpre.k3.cell 1);have z0:=hpre.k3.thaw 0;have z1:=hpre.k3.thaw 1;have how:=κ hpre.store;have FA:Hid (∀a,A1=some a→w.heap.size≤a.block):=fun a h=>by have:=own_fresh hpre.o1 a h;omega
 have FB:Hid (∀a,A2=some a→w.heap.size≤a.block):=fun a h=>by have:=own_fresh hpre.o2 a h;omega
 clear hpre hl hu
 go_wp2_with fail
 generalize (w1.setCell (α w.heap.size 0) (.slice A1 l.length c1)).setCell (α w.heap.size 1) (.slice A2 u.length c2)=W2 at how ⊢;clear f0 f1 z0 z1;refine(pathOf_any A1 A2 c1 c2 l u n W2 (Rd.of_own how.out.o1) (Rd.of_own how.out.o2) hw hwu (by omega) (by omega) hn hr.out).mono ?_;rintro e W3 ⟨A3,c3,rfl,hr3,hf3,hb3⟩;have HF3:=κ hf3;have hob:=κ how.out.o2;have hsz2:w.heap.size+2≤W2.heap.size:=how.out.k6.lt;rw[←HP.out]at hr3 ⊢;have HR:=κ hr3;have how3:=κ (how.out.below hb3);clear how hr3 hb3 hf3;have f0:=χ (how3.out.k3.cell 0);have f1:=χ (how3.out.k3.cell 1);have r0:=χ (how3.out.k6.cell 0);have r1:=χ (how3.out.k6.cell 1);have y0:=how3.out.k6.thaw 0;have y1:=how3.out.k6.thaw 1;by_cases hp0:P.length=0
 ·have q0:((P.length:Int)==0)=true:=beq_iff_eq.2 (by omega);have hres:Hid (resF l u n x=(18,-1)):=by show _=_;rw[resF,←HP.out,if_pos hp0]
  have hresu:Hid (resU l u n x=u):=by show _=_;rw[resU,hres.out];rfl
  obtain⟨t1,t2,t3,t4,t5⟩:=fin_st how3.out.o1 how3.out.o2 how3.out.k6 (by omega) (by omega) how3.out.bl (.slice A1 l.length c1) (.slice A2 u.length c2);have T1:=κ t1;have T2:=κ t2;clear hp0 t1 t2
  go_wp2_with fail
  exact bodyPost_ret (v:= .tuple #[.agg #[.slice A1 l.length c1,.slice A2 u.length c2],ι 18,ι (-1)]) (by simp[results,Tryz.results71,go_sem,t4,t5]) rfl (madeResF_mk FA.out FB.out hresu.out hres.out T1.out T2.out t3)
 have q0:((P.length:Int)==0)=false:=beq_eq_false_iff_ne.2 (by omega);by_cases hx:x<0
 ·have hres:Hid (resF l u n x=(1,-1)):=by show _=_;rw[resF,←HP.out,if_neg hp0,if_pos hx]
  have hresu:Hid (resU l u n x=u):=by show _=_;rw[resU,hres.out];rfl
  obtain⟨t1,t2,t3,t4,t5⟩:=fin_st how3.out.o1 how3.out.o2 how3.out.k6 (by omega) (by omega) how3.out.bl (.slice A1 l.length c1) (.slice A2 u.length c2);have T1:=κ t1;have T2:=κ t2;clear hp0 t1 t2
  go_wp2_with fail
  exact bodyPost_ret (v:= .tuple #[.agg #[.slice A1 l.length c1,.slice A2 u.length c2],ι 1,ι (-1)]) (by simp[results,Tryz.results71,go_sem,t4,t5]) rfl (madeResF_mk FA.out FB.out hresu.out hres.out T1.out T2.out t3)
 have hres:Hid (resF l u n x=resS l u x P 12):=by show _=_;rw[resF,←HP.out,if_neg hp0,if_neg hx]
 have how4:=κ (how3.out.below (ψ.alloc τ (.cells #[ι 12,ι 13,ι 14] 209)));have HR4:Hid (Ris (W3.alloc (.cells #[ι 12,ι 13,ι 14] 209)) (W3.alloc (.cells #[ι 12,ι 13,ι 14] 209)).heap.size A3 P):=Rd.below' HR.out (ψ.alloc τ _) (by simp);have KR:=κ (Blk.fresh W3 209 #[ι 12,ι 13,ι 14]);have hxf:decide (x<0)=false:=by simp;omega
 have happ:Hid (Apart u.length P):=by rw[HP.out];exact apart_path HG.out.okt HG.out.len n
 clear hp0 f0 f1 r0 r1 y0 y1
 go_wp2_with fail
 generalize W3.alloc (.cells #[ι 12,ι 13,ι 14] 209)=W4 at how4 HR4 KR ⊢;have hgR:=how3.out.k6.lt;generalize W3.heap.size=gR at KR hgR ⊢;have f0:=χ (how4.out.k3.cell 0);have f1:=χ (how4.out.k3.cell 1);have ho2b:=fun k hk=>(World.ownsRow.lt hob.out k hk).2
 obtain⟨g2,rfl,hg2a,hg2b,_,hc2,hs2⟩:=own_at how4.out.o2 (by rw[HG.out.len];have:=HG.out.one;omega);obtain⟨h1,rfl,hg1a,hg1b,_,hc1,hs1⟩:=own_at2 how4.out.o1 (by have:=HG.out.one;omega);have hg2w:=ho2b g2 rfl;have HC1:=κ hc1;have HC2:=κ hc2;clear ho2b;have HS2:=κ hs2;clear hc1 hc2 hs1 hs2
 go_loopg [32] P.length (fun g s32 w'=> ∃k:Nat,k+g=P.length∧s32= ι k∧Hid (resS l u x (P.drop k) (12+k)=resS l u x P 12)∧W4=w')
 case atStart=>exact⟨0,by omega,rfl,rfl,rfl⟩
 case round=>
  obtain⟨k,hk,rfl,hall,rfl⟩:=hrel;by_cases hlt:(k:Int)<(P.length:Int)
  ·obtain⟨g,rfl⟩: ∃g,gk=g+1:=⟨gk-1,by omega⟩;have hm:=happ.out.1 k (by omega);obtain⟨m,hmm⟩:=ν (gI P k);have HM:=κ hmm;rw[←hmm]at hm;obtain⟨hm0,hm1⟩:=hm;obtain⟨b,o,rfl,hb,hcc⟩:=Ris.at (i:=k) HR4.out (by omega);have d0:=hcc k (by omega);rw[←hmm]at d0;have hml:m.toNat<l.length:=by rw[←HG.out.len];omega
   have hml':m<l.length:=by omega
   have d1:=(HC2.out m.toNat (by omega)).1;have d2:=(HC1.out m.toNat hml).2.1;have hu1:=HG.out.uok m.toNat (by omega);have hl1:=HG.out.okt m.toNat hml;obtain⟨hu1a,hu1b⟩:=hu1;obtain⟨_,_,hl1a,hl1b,_⟩:=hl1;clear hcc hmm;by_cases hfit:nC l m.toNat-gI u m.toNat<x
   ·have hres':Hid (resF l u n x=(12+(k:Int),m)):=by
     show _=_;rw[hres.out,←hall.out,resS_no (by omega) (by rw[←HM.out];exact hfit),HM.out]
    have hresu:Hid (resU l u n x=u):=by
     show _=_;rw[resU,hres'.out,if_neg (by show ¬(12+(k:Int))=0;omega)]
    obtain⟨t1,t2,t3,t4,t5⟩:=fin_st how4.out.o1 how4.out.o2 how4.out.k6 (by omega) (by omega) how4.out.bl (.slice (some ⟨h1,0,none⟩) l.length c1) (.slice (some ⟨g2,0,none⟩) u.length c2);have T1:=κ t1;have T2:=κ t2;have r0:=χ (how4.out.k6.cell 0);have r1:=χ (how4.out.k6.cell 1);have y0:=how4.out.k6.thaw 0;have y1:=how4.out.k6.thaw 1;have hk3:(k:Int)<3:=by omega
    have hk3':k<3:=by omega
    have e0:W4.cell? (α gR k)=some (ι (12+(k:Int))):=by
     rw[KR.out.cell];have:k=0∨k=1∨k=2:=by omega
     rcases this with rfl|rfl|rfl<;>rfl
    have e1:((W4.setCell (α (w.heap.size+1) 0) (.slice (some (α h1 0)) l.length c1)).setCell (α (w.heap.size+1) 1) (.slice (some (α g2 0)) u.length c2)).cell? (α gR k)=some (ι (12+(k:Int))):=by
     rw[(blk_far (blk_far KR.out (p:=⟨w.heap.size+1,0,none⟩) (by simp;omega) _) (p:=⟨w.heap.size+1,1,none⟩) (by simp;omega) _).cell,←KR.out.cell];exact e0
    clear t1 t2;by_cases hbig:gI u m.toNat+x≤9223372036854775807
    ·have i1:=inB_t (by omega) hbig;have i2:=numV_t i1
     go_wp2_with (go_at_call 110;refine(add_any _ _ _ (by omega) (by omega) (by omega) (by omega)).mono ?_;rintro e w' ⟨rfl,rfl⟩)
     go_region
     all_goals
      go_wp2_with fail
      exact bodyPost_ret (v:= .tuple #[.agg #[.slice (some (α h1 0)) l.length c1,.slice (some (α g2 0)) u.length c2],ι (12+(k:Int)),ι m]) (by simp[results,Tryz.results71,go_sem,t4,t5]) rfl (madeResF_mk FA.out FB.out hresu.out hres'.out T1.out T2.out t3.drew)
    ·have i1:inB (gI u m.toNat+x)=false:=inB_f (by omega)
     go_wp2_with (go_at_call 110;refine(add_any _ _ _ (by omega) (by omega) (by omega) (by omega)).mono ?_;rintro e w' ⟨rfl,rfl⟩)
     go_region
     all_goals
      go_wp2_with fail
      exact bodyPost_ret (v:= .tuple #[.agg #[.slice (some (α h1 0)) l.length c1,.slice (some (α g2 0)) u.length c2],ι (12+(k:Int)),ι m]) (by simp[results,Tryz.results71,go_sem,t4,t5]) rfl (madeResF_mk FA.out FB.out hresu.out hres'.out T1.out T2.out t3.drew)
   ·have i1:inB (gI u m.toNat+x)=true:=inB_t (by omega) (by omega);have i2:=numV_t i1
    have hall':Hid (resS l u x (P.drop (k+1)) (12+((k+1:Nat):Int))=resS l u x P 12):=by
     show _=_;have hgo:=resS_go (l:=l) (u:=u) (p:=P) (x:=x) (c:=12+(k:Int)) (k:=k) (by omega) (by rw[←HM.out];exact hfit);rw[←hall.out,hgo]
     congr 1
    go_wp2_with (go_at_call 110;refine(add_any _ _ _ (by omega) (by omega) (by omega) (by omega)).mono ?_;rintro e w' ⟨rfl,rfl⟩)
    go_roundg g
    case measure=>omega
    case rel=>exact⟨k+1,by omega,by go_num,hall',rfl⟩
  ·have hc0:Hid (resF l u n x=(0,-1)):=by
    show _=_;rw[hres.out,←hall.out,show k=P.length by omega];exact resS_end
   have hcu:Hid (resU l u n x=addF u P x):=by
    show _=_;rw[resU,hc0.out,if_pos rfl,←HP.out]
   have hokx:Hid (∀i,i<P.length→x≤nC l (gI P i).toNat-gI u (gI P i).toNat):=by
    have h1:(resS l u x P 12).1=0:=by rw[←hres.out,hc0.out]
    exact resS_ok P 12 (by decide) h1
   go_wp2_with fail
   go_loopg [67] P.length (fun g s67 w'=> ∃k:Nat,k+g=P.length∧s67= ι k∧Hid (Owned w w' (some (α h1 0)) (some (α g2 0)) c1 c2 l (addF u (P.take k) x))∧Hid (Ris w' w'.heap.size A3 P))
   case atStart=>exact⟨0,by omega,rfl,by rw[List.take_zero,addF_nil];exact how4,HR4⟩
   case round=>
    obtain⟨k,hk,rfl,how,HR⟩:=hrel;have f0:=χ (how.out.k3.cell 0)
    have f1:wr.cell? (α w.heap.size 1)=some (.slice (some (α g2 0)) u.length c2):=by
     have:=how.out.k3.cell 1;rw[addF_len]at this;exact this
    by_cases hlt:(k:Int)<(P.length:Int)
    ·obtain⟨g,rfl⟩: ∃g,gk=g+1:=⟨gk-1,by omega⟩;have hm:=happ.out.1 k (by omega);have hox:=hokx.out k (by omega);have hat:=addF_at (x:=x) happ.out (show k<P.length by omega);have hstep:=addF_step (x:=x) happ.out (show k<P.length by omega);obtain⟨m,hmm⟩:=ν (gI P k);rw[←hmm]at hm hox hat hstep;obtain⟨hm0,hm1⟩:=hm;obtain⟨b,o,rfl,hb,hcc⟩:=Ris.at (i:=k) HR.out (by omega);have d0:=hcc k (by omega);rw[←hmm]at d0;have hml:m.toNat<l.length:=by rw[←HG.out.len];omega
     have hml':m<u.length:=by omega
     obtain⟨g2',hg2',hg2c,hg2d,_,hc2,hs2⟩:=own_at how.out.o2 (by rw[addF_len];omega);obtain rfl:g2=g2':=by injection hg2' with e;injection e
     have hcm:=hc2 m.toNat (by rw[addF_len];omega);rw[hat]at hcm;obtain⟨d1,d2⟩:=hcm;have hsm:=hs2 m.toNat (gI u m.toNat+x) (by rw[addF_len];omega);rw[hstep]at hsm;have hu1:=HG.out.uok m.toNat (by omega);have hl1:=HG.out.okt m.toNat hml;obtain⟨hu1a,hu1b⟩:=hu1;obtain⟨_,_,hl1a,hl1b,_⟩:=hl1
     have how':Hid (Owned w (wr.setCell (α g2 m.toNat) (ι (gI u m.toNat+x))) (some (α h1 0)) (some (α g2 0)) c1 c2 l (addF u (P.take (k+1)) x)):=by
      refine⟨own_other how.out.o1 how.out.o2 (by decide) _ _,?_,?_,blk_far how.out.k6 (by simp;omega) _,how.out.bl.setCell (by simp;omega) _⟩
      ·rw[addF_len]at hsm ⊢;exact hsm
      ·have:=blk_far how.out.k3 (p:=(α g2 m.toNat)) (by simp;omega) (ι (gI u m.toNat+x));rw[addF_len]at this ⊢;exact this
     have HR':Hid (Ris (wr.setCell (α g2 m.toNat) (ι (gI u m.toNat+x))) (wr.setCell (α g2 m.toNat) (ι (gI u m.toNat+x))).heap.size (some (α b o)) P):=by
      refine HR.out.keep' (g:=g2) (by omega) ?_ _;intro a ha;have:=HF3.out a ha;omega
     clear hcc hmm hat hstep hc2 hs2 hsm
     go_wp2_with fail
     go_roundg g
     case measure=>omega
     case rel=>exact⟨k+1,by omega,by go_num,how',HR'⟩
    ·have hfin:Hid (Owned w wr (some (α h1 0)) (some (α g2 0)) c1 c2 l (addF u P x)):=by
      have:k=P.length:=by omega
      subst this;rw[addF_full]at how;exact how
     have hlen:Hid ((addF u P x).length=u.length):=addF_len _ _ _;obtain⟨t1,t2,t3,t4,t5⟩:=fin_st hfin.out.o1 hfin.out.o2 hfin.out.k6 (by omega) (by omega) hfin.out.bl (.slice (some ⟨h1,0,none⟩) l.length c1) (.slice (some ⟨g2,0,none⟩) u.length c2);have T1:=κ t1;have T2:=κ t2;have r0:=χ (hfin.out.k6.cell 0);have r1:=χ (hfin.out.k6.cell 1);have y0:=hfin.out.k6.thaw 0;have y1:=hfin.out.k6.thaw 1;have hend:=κ (madeResF_mk (c:=c1) (c':=c2) FA.out FB.out hcu.out hc0.out T1.out T2.out t3);rw[hlen.out]at hend;clear t1 t2
     go_wp2_with fail
     exact bodyPost_ret (v:= .tuple #[.agg #[.slice (some (α h1 0)) l.length c1,.slice (some (α g2 0)) u.length c2],ι 0,ι (-1)]) (by simp[results,Tryz.results71,go_sem,t4,t5]) rfl hend.out
end Rsf
end Go.Proofs.YtfbajlcljfjbkaaGreat
