/- Texts side by side. -/
import Derived.Test.YtfbajlcljfjbkaaGreatUniai
set_option linter.unusedVariables false
set_option linter.unusedSimpArgs false
set_option maxRecDepth 100000
set_option maxHeartbeats 16000000
namespace Go.Proofs.YtfbajlcljfjbkaaGreat
open Kap Abv Go.ChangeShapes Go.WideShapes Go.ChangeAt Go.RowKit Mem Tre Ref3 Law3 CrdB CrdC Bkp Bks Bkf Stk
namespace Bkg
def findE(l:List En)(k:Int):En:=if posE l k<l.length then gE l (posE l k) else en0
def findB(l:List En)(k:Int):Bool:=decide (posE l k<l.length)
theorem find_any(sh ca:Int)(A C:Option Addr)(nr no c d:Nat)(op:List En)(k:Int)(w:World)(HNO:Hid (no=op.length))(h:Hid (Rd w w.heap.size C (ens op)))(hmax:(no:Int)≤1000000):
  Calls Tryz.prog 75 #[.agg #[.int .i64 sh,.int .i64 ca,.slice A nr c,.slice C no d],.int .i64 k] w (fun r w'=>r= .returned (.tuple #[enA (findE op k),.bool (findB op k)])∧Below w.heap.size w w'):=by
 have b0:=κ (γ w (.cells (vB sh ca A nr c C no d) 75) (.cells (vE 0 0 0 false 0 0 0 0 0 0 0) 157));have K0:=κ ((Blk.fresh w 75 (vB sh ca A nr c C no d)).alloc (.cells (vE 0 0 0 false 0 0 0 0 0 0 0) 157));have R0:=κ (δ (w.alloc (.cells (vB sh ca A nr c C no d) 75)) 157 (vE 0 0 0 false 0 0 0 0 0 0 0) (w.heap.size+1))
 go_enter Tryz.func75,Tryz.ntmps75
 go_wp2_with fail
 refine(place_any sh ca A C nr no c d op k _ HNO (Rd.below' h.out b0.out b0.out.size) hmax).mono ?_;rintro r w1 ⟨rfl,hb1⟩;have HB:=κ (below_step b0.out hb1);have K1:=κ (Blk.below' K0.out hb1);have R1:=κ (Blk.below' R0.out hb1);have H1:=κ (Rd.below' h.out HB.out HB.out.size);clear hb1 b0 K0 R0 h;have hgg:w.heap.size≠w.heap.size+1:=by omega
 have hge:Hid (w.heap.size≤w.heap.size+1):=by show _≤_;omega
 generalize w.heap.size+1=gR at R1 hgg hge ⊢;obtain⟨gM,hgM⟩:=ν w.heap.size;have K2:=κ (ζ hgM K1.out);have hgg2:gM≠gR:=by omega
 simp only[←hgM];clear hgM K1 hgg;obtain⟨k0,k1,k2,k3⟩:=q4_of K2.out;obtain⟨z0,z1,z2,z3,z4,z5,z6,z7,z8,z9,z10,f0,f1,f2,f3,f4,f5,f6,f7,f8,f9,f10⟩:=z11_of R1.out;by_cases hp:posE op k<op.length
 ·have hP:=κ (placeF_t hp);obtain⟨b,o,hA,hb,hcc⟩:=Ens.at H1.out (by omega);have hcs:=hcc (posE op k) hp;subst hA;have hF:Hid (findE op k=gE op (posE op k)∧findB op k=true):=⟨by unfold findE;rw[if_pos hp],by unfold findB;simp[hp]⟩;have hlt:Hid (posE op k<no):=by show _<_;rw[HNO.out];exact hp
  rw[hP.out];generalize posE op k=i at hcs hF hlt ⊢;have hlt':=hlt.out;have hne:((i:Int)== -1)=false:=by rw[beq_eq_false_iff_ne];omega
  clear hcc hp hP H1;generalize gE op i=E at hcs hF;obtain⟨id,⟨a,s,x,p,q,n,t⟩,lf,st,ep⟩:=E;obtain⟨c0,c1,c2,c3,c4,c5,c6,c7,c8,c9,c10⟩:=hcs;simp only[]at c0 c1 c2 c3 c4 c5 c6 c7 c8 c9 c10;have f3:Blk (st11 w1 gR (ι id) (ι a) (ι s) (.bool x) (ι p) (ι q) (ι n) (ι t) (ι lf) (ι st) (ι ep)) gR 157 (vE id a s x p q n t lf st ep):=st11_blk R1.out;have hfin:Below w.heap.size w (st11 w1 gR (ι id) (ι a) (ι s) (.bool x) (ι p) (ι q) (ι n) (ι t) (ι lf) (ι st) (ι ep)):=st11_below HB.out hge.out
  go_wp2_with fail
  obtain⟨d0,d1,d2,d3,d4,d5,d6,d7,d8,d9,d10⟩:=q11_of f3;clear f3 R1 K2;unfold st11 at d0 d1 d2 d3 d4 d5 d6 d7 d8 d9 d10 hfin;exact bodyPost_ret (v:= .tuple #[.agg #[ι id,ι a,ι s,.bool x,ι p,ι q,ι n,ι t,ι lf,ι st,ι ep],.bool true]) (by simp[results,Tryz.results75,go_sem,d0,d1,d2,d3,d4,d5,d6,d7,d8,d9,d10]) rfl ⟨by rw[hF.out.1,hF.out.2];rfl,hfin⟩
 ·have hP:=κ (placeF_f hp);have hF:Hid (findE op k=en0∧findB op k=false):=⟨by unfold findE;rw[if_neg hp],by unfold findB;simp[hp]⟩;rw[hP.out];clear hp hP H1;have f3:Blk (st11 w1 gR (ι 0) (ι 0) (ι 0) (.bool false) (ι 0) (ι 0) (ι 0) (ι 0) (ι 0) (ι 0) (ι 0)) gR 157 (vE 0 0 0 false 0 0 0 0 0 0 0):=st11_blk R1.out;have hfin:Below w.heap.size w (st11 w1 gR (ι 0) (ι 0) (ι 0) (.bool false) (ι 0) (ι 0) (ι 0) (ι 0) (ι 0) (ι 0) (ι 0)):=st11_below HB.out hge.out
  go_wp2_with fail
  obtain⟨d0,d1,d2,d3,d4,d5,d6,d7,d8,d9,d10⟩:=q11_of f3;clear f3 R1 K2;unfold st11 at d0 d1 d2 d3 d4 d5 d6 d7 d8 d9 d10 hfin;exact bodyPost_ret (v:= .tuple #[.agg #[ι 0,ι 0,ι 0,.bool false,ι 0,ι 0,ι 0,ι 0,ι 0,ι 0,ι 0],.bool false]) (by simp[results,Tryz.results75,go_sem,d0,d1,d2,d3,d4,d5,d6,d7,d8,d9,d10]) rfl ⟨by rw[hF.out.1,hF.out.2];rfl,hfin⟩
end Bkg
end Go.Proofs.YtfbajlcljfjbkaaGreat
