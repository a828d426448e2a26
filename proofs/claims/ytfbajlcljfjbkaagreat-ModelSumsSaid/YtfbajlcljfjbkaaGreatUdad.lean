/- Texts side by side. -/
import Derived.Test.YtfbajlcljfjbkaaGreatUniav
set_option linter.unusedVariables false
set_option linter.unusedSimpArgs false
set_option maxRecDepth 100000
set_option maxHeartbeats 16000000
namespace Go.Proofs.YtfbajlcljfjbkaaGreat
open Kap Abv Go.ChangeShapes Go.WideShapes Go.ChangeAt Go.RowKit Mem Tre Ref3 Law3 Crd CrdB CrdC Bkp Bks Bkf Bkg Stk
namespace Rba
theorem at_any(sh ca:Int)(A C:Option Addr)(nr no c d:Nat)(op:List En)(k:Int)(w:World)(HNO:Hid (no=op.length))(h:Hid (Rd w w.heap.size C (ens op)))(hmax:(no:Int)≤1000000):
  Calls Tryz.prog 119 #[.agg #[.int .i64 sh,.int .i64 ca,.slice A nr c,.slice C no d],.int .i64 k] w (fun r w'=>r= .returned (.int .i64 (placeF op k))∧Below w.heap.size w w'):=by
 have b0:=κ (β w (.cells (vB sh ca A nr c C no d) 110));have K0:=κ (Blk.fresh w 110 (vB sh ca A nr c C no d));have H1:=κ (Rd.below' h.out b0.out b0.out.size)
 go_enter Tryz.func119,Tryz.ntmps119
 go_upto_region 1 with fail
 generalize w.alloc (.cells (vB sh ca A nr c C no d) 110)=w1 at b0 K0 H1 ⊢;generalize w.heap.size=gB at K0 ⊢;obtain⟨k0,k1,k2,k3⟩:=q4_of K0.out
 go_wp2_with fail
 go_loopg [5] no (fun g s5 w'=> ∃i:Nat,i+g=no∧s5= ι i∧Hid (∀j,j<i→(gE op j).id≠k)∧w'=w1)
 case atStart=>exact⟨0,by omega,rfl,(fun j hj=>by omega),rfl⟩
 case round=>
  obtain⟨i,hi,rfl,hno,hw⟩:=hrel;subst hw;by_cases hlt:i<no
  ·obtain⟨g9,rfl⟩: ∃g9,gk=g9+1:=⟨gk-1,by omega⟩;have t0:decide ((i:Int)<(no:Int))=true:=by simp;omega
   have hio:i<op.length:=by rw[←HNO.out];exact hlt
   obtain⟨b,o,hA,hb,hcc⟩:=Ens.at H1.out (by omega);have hcs:=hcc i hio;subst hA;obtain⟨c0,c1,c2,c3,c4,c5,c6,c7,c8,c9,c10⟩:=hcs;clear c1 c2 c3 c4 c5 c6 c7 c8 c9 c10 hcc;obtain⟨x,hx⟩:=ν ((gE op i).id);rw[←hx]at c0;have HX:=κ hx;clear hx;by_cases hv:x=k
   ·have t1:(x==k)=true:=by simp[hv]
    have hfin:Hid (placeF op k=(i:Int)):=by
     show _=_;have e:=posE_at op k i hno.out hio (by rw[←HX.out];exact hv);rw[placeF_t (by rw[e];exact hio),e]
    clear hv
    go_wp2_with fail
    go_ret;exact⟨congrArg Ending.returned (congrArg (Value.int .i64) hfin.out.symm),b0.out⟩
   ·have t1:(x==k)=false:=by simp[hv]
    have hno':Hid (∀j,j<i+1→(gE op j).id≠k):=by
     intro j hj;by_cases hji:j=i
     ·subst hji;rw[←HX.out];exact hv
     ·exact hno.out j (by omega)
    clear hv
    go_wp2_with fail
    go_roundg g9
    case measure=>omega
    case rel=>exact⟨i+1,by omega,by rw[Int.natCast_add];rfl,hno',rfl⟩
  ·have t0:decide ((i:Int)<(no:Int))=false:=by simp;omega
   have hfin:Hid (placeF op k= -1):=by
    show _=_;have e:=posE_none op k (fun j hj=>hno.out j (by have:=HNO.out;omega));exact placeF_f (by rw[e];exact Nat.lt_irrefl _)
   go_wp2_with fail
   go_ret;exact⟨congrArg Ending.returned (congrArg (Value.int .i64) hfin.out.symm),b0.out⟩
theorem rfind_any(sh ca:Int)(A C:Option Addr)(nr no c d:Nat)(op:List En)(k:Int)(w:World)(HNO:Hid (no=op.length))(h:Hid (Rd w w.heap.size C (ens op)))(hmax:(no:Int)≤1000000):
  Calls Tryz.prog 88 #[.agg #[.int .i64 sh,.int .i64 ca,.slice A nr c,.slice C no d],.int .i64 k] w (fun r w'=>r= .returned (.tuple #[enA (findE op k),.bool (findB op k)])∧Below w.heap.size w w'):=by
 have b0:=κ (γ w (.cells (vB sh ca A nr c C no d) 110) (.cells (vE 0 0 0 false 0 0 0 0 0 0 0) 122));have K0:=κ ((Blk.fresh w 110 (vB sh ca A nr c C no d)).alloc (.cells (vE 0 0 0 false 0 0 0 0 0 0 0) 122));have R0:=κ (δ (w.alloc (.cells (vB sh ca A nr c C no d) 110)) 122 (vE 0 0 0 false 0 0 0 0 0 0 0) (w.heap.size+1));have H0:=κ (Rd.below' h.out b0.out b0.out.size)
 go_enter Tryz.func88,Tryz.ntmps88
 go_upto_region 1 with fail
 obtain⟨gB,hgB⟩:=ν w.heap.size;obtain⟨gR,hgR⟩:=ν (w.heap.size+1);have K1:=κ (ζ hgB K0.out);have R1:=κ (ζ hgR R0.out);have hge:Hid (w.heap.size≤gR):=by show _≤_;omega
 simp only[←hgR];simp only[←hgB];clear hgB hgR K0 R0;generalize ((w.alloc (.cells (vB sh ca A nr c C no d) 110)).alloc (.cells (vE 0 0 0 false 0 0 0 0 0 0 0) 122))=w0 at b0 K1 R1 H0 ⊢;obtain⟨k0,k1,k2,k3⟩:=q4_of K1.out
 go_wp2_with fail
 refine(at_any sh ca A C nr no c d op k _ HNO H0 hmax).mono ?_;rintro e w1 ⟨rfl,hb1⟩;have HB:=κ (CrdB.below_step b0.out hb1);have K2:=κ (Blk.below' K1.out hb1);have R2:=κ (Blk.below' R1.out hb1);have H1:=κ (Rd.below' H0.out hb1 hb1.size);clear k0 k1 k2 k3 hb1 H0 K1 R1 b0;obtain⟨k0,k1,k2,k3⟩:=q4_of K2.out;obtain⟨z0,z1,z2,z3,z4,z5,z6,z7,z8,z9,z10,f0,f1,f2,f3,f4,f5,f6,f7,f8,f9,f10⟩:=z11_of R2.out;by_cases hp:posE op k<op.length
 ·have hP:=κ (placeF_t hp);obtain⟨b,o,hA,hb,hcc⟩:=Ens.at H1.out (by omega);have hcs:=hcc (posE op k) hp;subst hA;have hF:Hid (findE op k=gE op (posE op k)∧findB op k=true):=⟨by unfold findE;rw[if_pos hp],by unfold findB;simp[hp]⟩;have hlt:Hid (posE op k<no):=by show _<_;rw[HNO.out];exact hp
  rw[hP.out];generalize posE op k=i at hcs hF hlt ⊢;have hlt':=hlt.out;have hne:decide ((i:Int)<0)=false:=by simp only[decide_eq_false_iff_not];omega
  clear hcc hp hP H1;generalize gE op i=E at hcs hF;obtain⟨id,⟨a,s,x,p,q,n,t⟩,lf,st,ep⟩:=E;obtain⟨c0,c1,c2,c3,c4,c5,c6,c7,c8,c9,c10⟩:=hcs;simp only[]at c0 c1 c2 c3 c4 c5 c6 c7 c8 c9 c10;have f3':Blk (st11 w1 gR (ι id) (ι a) (ι s) (.bool x) (ι p) (ι q) (ι n) (ι t) (ι lf) (ι st) (ι ep)) gR 122 (vE id a s x p q n t lf st ep):=st11_blk R2.out;have hfin:Below w.heap.size w (st11 w1 gR (ι id) (ι a) (ι s) (.bool x) (ι p) (ι q) (ι n) (ι t) (ι lf) (ι st) (ι ep)):=st11_below HB.out hge.out
  go_wp2_with fail
  obtain⟨d0,d1,d2,d3,d4,d5,d6,d7,d8,d9,d10⟩:=q11_of f3';clear f3' R2 K2;unfold st11 at d0 d1 d2 d3 d4 d5 d6 d7 d8 d9 d10 hfin;exact bodyPost_ret (v:= .tuple #[.agg #[ι id,ι a,ι s,.bool x,ι p,ι q,ι n,ι t,ι lf,ι st,ι ep],.bool true]) (by simp[results,Tryz.results88,go_sem,d0,d1,d2,d3,d4,d5,d6,d7,d8,d9,d10]) rfl (by rw[hF.out.1,hF.out.2];exact⟨rfl,hfin⟩)
 ·have hP:=κ (placeF_f hp);have hF:Hid (findE op k=en0∧findB op k=false):=⟨by unfold findE;rw[if_neg hp],by unfold findB;simp[hp]⟩;rw[hP.out];clear hp hP H1;have f3':Blk (st11 w1 gR (ι 0) (ι 0) (ι 0) (.bool false) (ι 0) (ι 0) (ι 0) (ι 0) (ι 0) (ι 0) (ι 0)) gR 122 (vE 0 0 0 false 0 0 0 0 0 0 0):=st11_blk R2.out;have hfin:Below w.heap.size w (st11 w1 gR (ι 0) (ι 0) (ι 0) (.bool false) (ι 0) (ι 0) (ι 0) (ι 0) (ι 0) (ι 0) (ι 0)):=st11_below HB.out hge.out
  go_wp2_with fail
  obtain⟨d0,d1,d2,d3,d4,d5,d6,d7,d8,d9,d10⟩:=q11_of f3';clear f3' R2 K2;unfold st11 at d0 d1 d2 d3 d4 d5 d6 d7 d8 d9 d10 hfin;exact bodyPost_ret (v:= .tuple #[.agg #[ι 0,ι 0,ι 0,.bool false,ι 0,ι 0,ι 0,ι 0,ι 0,ι 0,ι 0],.bool false]) (by simp[results,Tryz.results88,go_sem,d0,d1,d2,d3,d4,d5,d6,d7,d8,d9,d10]) rfl (by rw[hF.out.1,hF.out.2];exact⟨rfl,hfin⟩)
end Rba
end Go.Proofs.YtfbajlcljfjbkaaGreat
