/- Texts side by side. -/
import Derived.Test.YtaeddnjjeholgaaGreatUgac
import Derived.Test.YtaeddnjjeholgaaGreatUgan
set_option linter.unusedVariables false
set_option linter.unusedSimpArgs false
set_option maxRecDepth 100000
set_option maxHeartbeats 16000000
namespace Go.Proofs.YtaeddnjjeholgaaGreat
open Kap Abv Go.ChangeShapes Go.WideShapes Go.ChangeAt Go.RowKit Mem Tre Ref3 Law3 CrdB CrdC Bkp Bks
namespace Bkf
theorem index_any(A:Option Addr)(n c:Nat)(l:List Int)(v:Int)(w:World)(hn:Hid (n=l.length))(hl:Hid (Ris w w.heap.size A l))(hmax:(n:Int)≤1000000):
  Calls Tryz.prog 186 #[.slice A n c,.int .i64 v] w (fun e w'=> ∃k:Int,e= .returned (.int .i64 k)∧w'=w∧decide (0≤k)=l.contains v):=by
 go_enter Tryz.func186,Tryz.ntmps186
 go_wp2_with fail
 go_loopg [8] n (fun g s8 w'=> ∃i:Nat,i+g=n∧s8= ι i∧Hid (∀j,j<i→gI l j≠v)∧w'=w)
 case atStart=>exact⟨0,by omega,rfl,(fun j hj=>by omega),rfl⟩
 case round=>
  obtain⟨i,hi,rfl,hno,rfl⟩:=hrel;by_cases hlt:i<n
  ·obtain⟨g,rfl⟩: ∃g,gk=g+1:=⟨gk-1,by omega⟩;have t0:decide ((i:Int)<(n:Int))=true:=by simp;omega
   obtain⟨b,o,hA,hb,hcc⟩:=Ris.at (i:=i) hl.out (by rw[←hn.out];exact hlt);have hc:=hcc i (by rw[←hn.out];exact hlt);subst hA;generalize hx:gI l i=x at hc;have HX:=κ hx;clear hcc hx;by_cases hv:v=x
   ·have t1:(v==x)=true:=by simp[hv]
    have hfin:Hid (decide (0≤(i:Int))=l.contains v):=by
     show _=_
     have:v∈l:=by
      rw[hv,←HX.out];have hi':i<l.length:=by rw[←hn.out];exact hlt
      simp[gI,hi']
     simp[this]
    clear hv
    go_wp2_with fail
    go_ret;exact⟨i,rfl,rfl,hfin.out⟩
   ·have t1:(v==x)=false:=by simp[hv]
    have hno':Hid (∀j,j<i+1→gI l j≠v):=by
     intro j hj;by_cases hji:j=i
     ·subst hji;rw[HX.out];exact fun e=>hv e.symm
     ·exact hno.out j (by omega)
    clear hv
    go_wp2_with fail
    go_roundg g
    case measure=>omega
    case rel=>exact⟨i+1,by omega,by rw[Int.natCast_add];rfl,hno',rfl⟩
  ·have t0:decide ((i:Int)<(n:Int))=false:=by simp;omega
   have hfin:Hid (decide (0≤(-1:Int))=l.contains v):=by
    show _=_
    have: ¬v∈l:=by
     intro hm;obtain⟨j,hj,he⟩:=List.mem_iff_getElem.1 hm;refine hno.out j (by have:=hn.out;omega) ?_;simp[gI,hj,he]
    simp[this]
   go_wp2_with fail
   go_ret;exact⟨-1,rfl,rfl,hfin.out⟩
theorem contains_any(A:Option Addr)(n c:Nat)(l:List Int)(v:Int)(w:World)(hn:Hid (n=l.length))(hl:Hid (Ris w w.heap.size A l))(hmax:(n:Int)≤1000000):
  Calls Tryz.prog 178 #[.slice A n c,.int .i64 v] w (fun e w'=>e= .returned (.bool (l.contains v))∧w'=w):=by
 go_enter Tryz.func178,Tryz.ntmps178
 go_wp2_with fail
 refine(index_any A n c l v _ hn hl hmax).mono ?_;rintro e w1 ⟨k,rfl,rfl,hk⟩;have HK:=κ hk;clear hk
 go_wp2_with fail
 go_ret;exact⟨by rw[←HK.out];rfl,rfl⟩
theorem hasR_any(A:Option Addr)(n c:Nat)(k:Int)(w:World):
  Calls Tryz.prog 177 #[.slice A n c,.int .i64 k] w (fun e w'=>e= .returned (.bool (inQ n k))∧w'=w):=by
 by_cases h0:0≤k
 ·by_cases h1:k<(n:Int)
  ·have e:Hid (inQ n k=true):=inQ_t h0 h1;have t0:decide (0≤k)=true:=by simp[h0]
   have t1:decide (k<(n:Int))=true:=by simp[h1]
   clear h0 h1
   go_enter Tryz.func177,Tryz.ntmps177
   go_wp2_with fail
   go_ret;exact⟨by rw[e.out];rfl,rfl⟩
  ·have e:Hid (inQ n k=false):=inQ_f (by omega);have t0:decide (0≤k)=true:=by simp[h0]
   have t1:decide (k<(n:Int))=false:=by simp[h1]
   clear h0 h1
   go_enter Tryz.func177,Tryz.ntmps177
   go_wp2_with fail
   go_ret;exact⟨by rw[e.out];rfl,rfl⟩
 ·have e:Hid (inQ n k=false):=inQ_f (by omega);have t0:decide (0≤k)=false:=by simp[h0]
  clear h0
  go_enter Tryz.func177,Tryz.ntmps177
  go_wp2_with fail
  go_ret;exact⟨by rw[e.out];rfl,rfl⟩
theorem enA_eq(id a s p q n t lf st ep:Int)(x:Bool):enA ⟨id,⟨a,s,x,p,q,n,t⟩,lf,st,ep⟩= .agg #[.int .i64 id,.int .i64 a,.int .i64 s,.bool x,.int .i64 p,.int .i64 q,.int .i64 n,.int .i64 t,.int .i64 lf,.int .i64 st,.int .i64 ep]:=rfl
theorem place1_any(e:En)(gi:Nat)(k:Int)(w:World)(hc:w.cell? ⟨gi,0,none⟩=some (.int .i64 k)):
  Calls Tryz.prog 165 #[enA e,.pointer (some ⟨gi,0,none⟩)] w (fun r w'=>r= .returned (.bool (e.id==k))∧Below w.heap.size w w'):=by
 obtain⟨id,⟨a,s,x,p,q,n,t⟩,lf,st,ep⟩:=e;have hlt:=World.block_lt_of_cell? w _ hc;have hc': ∀o,(w.alloc o).cell? (α gi 0)=some (ι k):=fun o=>(World.cell?_alloc_lt _ _ _ hlt).trans hc
 rw[enA_eq]
 go_enter Tryz.func165,Tryz.ntmps165
 go_wp2_with fail
 go_ret;exact⟨rfl,ψ.alloc τ _⟩
theorem indexF_any(A:Option Addr)(n c:Nat)(l:List En)(gi:Nat)(kk:Int)(w:World)(hn:Hid (n=l.length))(hl:Hid (Rd w w.heap.size A (ens l)))(hmax:(n:Int)≤1000000)(hc:w.cell? ⟨gi,0,none⟩=some (.int .i64 kk)):
  Calls Tryz.prog 164 #[.slice A n c,.func (.func 165) #[] #[.pointer (some ⟨gi,0,none⟩)]] w (fun r w'=>r= .returned (.int .i64 (placeF l kk))∧Below w.heap.size w w'):=by
 have hlt:=World.block_lt_of_cell? w _ hc;have HC:Hid (∀w',Below w.heap.size w w'→w'.cell? (α gi 0)=some (ι kk)):=fun w' hb=>(hb.cell (p:=(α gi 0)) hlt).trans hc
 clear hc hlt
 go_enter Tryz.func164,Tryz.ntmps164
 go_wp2_with fail
 go_loopg [8] n (fun g s8 w'=> ∃i:Nat,i+g=n∧s8= ι i∧Hid (∀j,j<i→(gE l j).id≠kk)∧Hid (Below w.heap.size w w'))
 case atStart=>exact⟨0,by omega,rfl,(fun j hj=>by omega),Below.refl _ _⟩
 case round=>
  obtain⟨i,hi,rfl,hno,hbel⟩:=hrel;by_cases hlt:i<n
  ·obtain⟨g,rfl⟩: ∃g,gk=g+1:=⟨gk-1,by omega⟩;have t0:decide ((i:Int)<(n:Int))=true:=by simp;omega
   obtain⟨b,o,hA,hb,hcc⟩:=Ens.at (Rd.below' hl.out hbel.out hbel.out.size) (by have:=hn.out;omega);have hcs:=hcc i (by rw[←hn.out];exact hlt);subst hA;obtain⟨E,hE⟩:=ν (gE l i);rw[←hE]at hcs;have HE:=κ hE;clear hcc hE;obtain⟨id,⟨a,s,x,p,q,n,t⟩,lf,st,ep⟩:=E;obtain⟨c0,c1,c2,c3,c4,c5,c6,c7,c8,c9,c10⟩:=hcs;simp only[]at c0 c1 c2 c3 c4 c5 c6 c7 c8 c9 c10;have HCr:=HC.out wr hbel.out;by_cases hv:id=kk
   ·have hfin:Hid (placeF l kk=(i:Int)):=by
     show _=_;have hp:posE l kk=i:=posE_at l kk i hno.out (by have:=hn.out;omega) (by rw[←HE.out];exact hv);rw[placeF_t (by rw[hp];have:=hn.out;omega),hp]
    have t1:(id==kk)=true:=by simp[hv]
    clear hv
    go_wp2_with (go_at_call 165;refine(place1_any ⟨id,⟨a,s,x,p,q,n,t⟩,lf,st,ep⟩ gi kk _ HCr).mono ?_;rw[t1];rintro r w1 ⟨rfl,hb1⟩)
    go_ret;exact⟨by rw[hfin.out];rfl,below_step hbel.out (by assumption)⟩
   ·have hno':Hid (∀j,j<i+1→(gE l j).id≠kk):=by
     intro j hj;by_cases hji:j=i
     ·subst hji;rw[←HE.out];exact hv
     ·exact hno.out j (by omega)
    have t1:(id==kk)=false:=by simp[hv]
    clear hv
    go_wp2_with (go_at_call 165;refine(place1_any ⟨id,⟨a,s,x,p,q,n,t⟩,lf,st,ep⟩ gi kk _ HCr).mono ?_;rw[t1];rintro r w1 ⟨rfl,hb1⟩)
    go_roundg g
    case measure=>omega
    case rel=>exact⟨i+1,by omega,by rw[Int.natCast_add];rfl,hno',below_step hbel.out (by assumption)⟩
  ·have t0:decide ((i:Int)<(n:Int))=false:=by simp;omega
   have hfin:Hid (placeF l kk= -1):=by
    show _=_;rw[placeF_f];rw[posE_none l kk (fun j hj=>hno.out j (by have:=hn.out;omega))];omega
   go_wp2_with fail
   go_ret;exact⟨by rw[hfin.out];rfl,hbel.out⟩
theorem place_any(sh ca:Int)(A C:Option Addr)(nr no c d:Nat)(op:List En)(k:Int)(w:World)(HNO:Hid (no=op.length))(h:Hid (Rd w w.heap.size C (ens op)))(hmax:(no:Int)≤1000000):
  Calls Tryz.prog 128 #[.agg #[.int .i64 sh,.int .i64 ca,.slice A nr c,.slice C no d],.int .i64 k] w (fun r w'=>r= .returned (.int .i64 (placeF op k))∧Below w.heap.size w w'):=by
 have b0:Hid (Below w.heap.size w ((w.alloc (.cells (vB sh ca A nr c C no d) 63)).alloc (.cells #[ι k] 3))):=γ w (.cells (vB sh ca A nr c C no d) 63) (.cells #[ι k] 3)
 have k0:((w.alloc (.cells (vB sh ca A nr c C no d) 63)).alloc (.cells #[ι k] 3)).cell? (α (w.heap.size+1) 0)=some (ι k):=by
  have:=(blk_hd (by simp):Blk ((w.alloc (.cells (vB sh ca A nr c C no d) 63)).alloc (.cells #[ι k] 3)) (w.heap.size+1) 3 #[ι k]);exact this.cell 0
 go_enter Tryz.func128,Tryz.ntmps128
 go_wp2_with fail
 refine(indexF_any C no d op (w.heap.size+1) k _ HNO (Rd.below' h.out b0.out b0.out.size) hmax k0).mono ?_;rintro r w1 ⟨rfl,hb1⟩;have HB:=κ (below_step b0.out hb1);clear hb1
 go_wp2_with fail
 go_ret;exact⟨rfl,HB.out⟩
end Bkf
namespace Bkh
open Bkf Stk
theorem next_any(sk wi ra ta:Int)(A1 A2 A3:Option Addr)(n1 n2 n3 c1 c2 c3:Nat)(sh ca:Int)(A C:Option Addr)(nr no c d:Nat)(w:World)(h1:1≤sk)(h2:sk≤1000)(h3:0≤sh)(h4:sh≤1000)(h5:0≤ca)(h6:ca≤1000000000):
  Calls Tryz.prog 180 #[.agg #[.int .i64 sk,.int .i64 wi,.int .i64 ra,.int .i64 ta,.slice A1 n1 c1,.slice A2 n2 c2,.slice A3 n3 c3],.agg #[.int .i64 sh,.int .i64 ca,.slice A nr c,.slice C no d]] w (fun r w'=>r= .returned (.int .i64 (sh+sk*ca))∧Below w.heap.size w w'):=by
 have b0:Hid (Below w.heap.size w ((w.alloc (.cells (vC sk wi ra ta A1 n1 c1 A2 n2 c2 A3 n3 c3) 43)).alloc (.cells (vB sh ca A nr c C no d) 63))):=γ w (.cells (vC sk wi ra ta A1 n1 c1 A2 n2 c2 A3 n3 c3) 43) (.cells (vB sh ca A nr c C no d) 63)
 have q1:9223372036854774≤(9223372036854775807-sh).tdiv sk:=by
  rw[Int.tdiv_eq_ediv_of_nonneg (by omega)]
  exact Int.le_ediv_of_mul_le (by omega) (by
   have:9223372036854774*sk≤9223372036854774*1000:=Int.mul_le_mul_of_nonneg_left h2 (by decide)
   omega)
 have q2:0≤sk*ca∧sk*ca≤1000*1000000000:=⟨Int.mul_nonneg (by omega) h5,Int.mul_le_mul h2 h6 h5 (by decide)⟩;have e1:wrap64 (sk*ca)=sk*ca:=by unfold wrap64;omega
 have e2:wrap64 (sh+sk*ca)=sh+sk*ca:=by unfold wrap64;omega
 have E2:=κ e2;have e3:wrap64 (9223372036854775807-sh)=9223372036854775807-sh:=by unfold wrap64;omega
 have q3:(9223372036854775807-sh).tdiv sk≤9223372036854775807:=by
  rw[Int.tdiv_eq_ediv_of_nonneg (by omega)];have:=Int.ediv_le_self (b:=sk) (show(0:Int)≤9223372036854775807-sh by omega);omega
 have t1:decide (sk<1)=false:=by simp;omega
 have t2:decide (sh<0)=false:=by simp;omega
 have t3:decide (ca<0)=false:=by simp;omega
 have e4:IntKind.i64.wrap (9223372036854775807-sh)=9223372036854775807-sh:=by rw[IntKind.wrap_i64];omega
 have e5:IntKind.i64.wrap ((9223372036854775807-sh).tdiv sk)=(9223372036854775807-sh).tdiv sk:=by rw[IntKind.wrap_i64];omega
 have e6:wrap64 ((9223372036854775807-sh).tdiv sk)=(9223372036854775807-sh).tdiv sk:=by unfold wrap64;omega
 have t4:decide ((9223372036854775807-sh).tdiv sk≤ca)=false:=by simp;omega
 have t5:(sk==0)=false:=by rw[beq_eq_false_iff_ne];omega
 have t6: ¬sk=0:=by omega
 have HSK:=κ h1
 go_enter Tryz.func180,Tryz.ntmps180
 go_upto_region 1 with fail
 clear q1 q2 q3 h1 h2 h3 h4 h5 h6
 go_quiet (fail)
 have hnq:Hid (Below w.heap.size w ((((w.alloc (.cells (vC sk wi ra ta A1 n1 c1 A2 n2 c2 A3 n3 c3) 43)).alloc (.cells (vB sh ca A nr c C no d) 63))).drewN nq)):=Below.drewN' b0.out nq
 go_wp2_with fail
 go_ret;exact⟨congrArg Ending.returned (congrArg (Value.int .i64) E2.out),hnq.out⟩
end Bkh
namespace Bki
open Bkf Stk
theorem look_any(sk wi ra ta:Int)(A1 A2 A3:Option Addr)(n1 n2 n3 c1 c2 c3:Nat)(A C:Option Addr)(nr no c d:Nat)(rl:List Rc)(bk:Bk)(od:Od)(w:World)(sh ca:Int)(hsh:Hid (sh=bk.sh∧ca=bk.ca))(hnr:Hid (nr=bk.rows.length))(hno:Hid (no=bk.op.length))(hm:Hid (Bm w A C rl bk))(hf:Hid (FewB bk)):
  Calls Tryz.prog 155 #[.agg #[.int .i64 sk,.int .i64 wi,.int .i64 ra,.int .i64 ta,.slice A1 n1 c1,.slice A2 n2 c2,.slice A3 n3 c3],.agg #[.int .i64 sh,.int .i64 ca,.slice A nr c,.slice C no d],odA od] w (fun r w'=>r= .returned (.int .i64 (lookF ra ta bk od))∧Below w.heap.size w w'):=by
 obtain⟨a,s,x,p,q,n,t⟩:=od;show Calls Tryz.prog 155 #[.agg #[.int .i64 sk,.int .i64 wi,.int .i64 ra,.int .i64 ta,.slice A1 n1 c1,.slice A2 n2 c2,.slice A3 n3 c3],.agg #[.int .i64 sh,.int .i64 ca,.slice A nr c,.slice C no d],.agg #[.int .i64 a,.int .i64 s,.bool x,.int .i64 p,.int .i64 q,.int .i64 n,.int .i64 t]] w (fun r w'=>r= .returned (.int .i64 (lookF ra ta bk ⟨a,s,x,p,q,n,t⟩))∧Below w.heap.size w w');have b0:Hid (Below w.heap.size w (((w.alloc (.cells (vC sk wi ra ta A1 n1 c1 A2 n2 c2 A3 n3 c3) 43)).alloc (.cells (vB sh ca A nr c C no d) 63)).alloc (.cells (vO a s x p q n t) 51))):=((ψ.alloc τ _).alloc (by simp) _).alloc (by simp<;>omega) _;have K0:Hid (Blk (((w.alloc (.cells (vC sk wi ra ta A1 n1 c1 A2 n2 c2 A3 n3 c3) 43)).alloc (.cells (vB sh ca A nr c C no d) 63)).alloc (.cells (vO a s x p q n t) 51)) w.heap.size 43 (vC sk wi ra ta A1 n1 c1 A2 n2 c2 A3 n3 c3)):=((Blk.fresh w _ _).alloc _).alloc _;have K1:Hid (Blk (((w.alloc (.cells (vC sk wi ra ta A1 n1 c1 A2 n2 c2 A3 n3 c3) 43)).alloc (.cells (vB sh ca A nr c C no d) 63)).alloc (.cells (vO a s x p q n t) 51)) (w.heap.size+1) 63 (vB sh ca A nr c C no d)):=Blk.alloc (blk_hd (by simp)) _;have K2:=κ (δ ((w.alloc (.cells (vC sk wi ra ta A1 n1 c1 A2 n2 c2 A3 n3 c3) 43)).alloc (.cells (vB sh ca A nr c C no d) 63)) 51 (vO a s x p q n t) (w.heap.size+2));have HM:=κ (hm.out.below b0.out)
 go_enter Tryz.func155,Tryz.ntmps155
 go_upto_region 1 with fail
 clear hm;generalize (((w.alloc (.cells (vC sk wi ra ta A1 n1 c1 A2 n2 c2 A3 n3 c3) 43)).alloc (.cells (vB sh ca A nr c C no d) 63)).alloc (.cells (vO a s x p q n t) 51))=w0 at b0 K0 K1 K2 HM ⊢;obtain⟨gCf,hgCf⟩:=ν w.heap.size;obtain⟨gB,hgB⟩:=ν (w.heap.size+1);obtain⟨gO,hgO⟩:=ν (w.heap.size+2);have J0:=κ (ζ hgCf K0.out);have J1:=κ (ζ hgB K1.out);have J2:=κ (ζ hgO K2.out);simp only[←hgO];simp only[←hgB];simp only[←hgCf];clear hgCf hgB hgO K0 K1 K2;obtain⟨e0,e1,e2,e3,e4,e5,e6⟩:=q7_of J0.out;obtain⟨k0,k1,k2,k3⟩:=q4_of J1.out;obtain⟨o0,o1,o2,o3,o4,o5,o6⟩:=q7_of J2.out
 go_wp2_with fail
 refine(hasR_any A nr c a _).mono ?_;by_cases hin:inQ nr a=true
 case neg=>
  have hfin:Hid (lookF ra ta bk ⟨a,s,x,p,q,n,t⟩=3):=by
   show _=_;unfold lookF;rw[←hnr.out];simp only[]at hin ⊢;rw[if_neg hin]
  have hin':inQ nr a=false:=by simpa using hin
  rw[hin'];clear hin hin';rintro e w1 ⟨rfl,rfl⟩
  go_wp2_with fail
  go_ret;exact⟨congrArg Ending.returned (congrArg (Value.int .i64) hfin.out.symm),b0.out⟩
 case pos=>
  have hia:=inQ_of hin;obtain⟨i,hi⟩: ∃i:Nat,a=i:=⟨a.toNat,by omega⟩;subst hi;have hlt:i<nr:=by omega
  have HIN:=κ hin;rw[hin];clear hin hia;rintro e w1 ⟨rfl,rfl⟩;have hlr:Hid (i<rl.length):=by show _<_;rw[HM.out.len,←hnr.out];exact hlt
  obtain⟨b,o,hA,hb,hcc⟩:=Rcs.at HM.out.r (by have:=hlr.out;omega);have hcs:=hcc i hlr.out;have HR:=κ (gC_row HM.out.e hlr.out);have HN:=κ (HM.out.n i hlr.out);have HL:=κ (hf.out.nl i (by rw[←hnr.out];exact hlt));subst hA
  have HLK:Hid (lookF ra ta bk ⟨(i:Int),s,x,p,q,n,t⟩=(if (gR bk.rows i).ns.contains n=true then 9
   else if t<(gR bk.rows i).sec then 10
   else if t=(gR bk.rows i).sec∧ra≤(gR bk.rows i).cnt then 10
   else if ta≤bk.op.length then 11 else 0)):=by
   show _=_;unfold lookF;rw[←hnr.out];simp only[];rw[if_pos HIN.out,Int.toNat_natCast]
  rw[←HR.out]at HLK HL;rw[←hno.out]at HLK;clear hcc HIN HR HM;generalize gC rl i=R at hcs HN HL HLK;obtain⟨An,cn,ns,sec,cnt⟩:=R;obtain⟨r0,r1,r2⟩:=hcs;simp only[]at r0 r1 r2 HN HL HLK;obtain⟨nn,hnn⟩:=ν ns.length;rw[←hnn]at r0 HL;have HNN:=κ hnn;clear hnn;have bA:=κ (b0.out.alloc b0.out.size (.cells (vR An nn cn sec cnt) 165));have KA:=κ (Blk.fresh w1 165 (vR An nn cn sec cnt));have U0:=β w1 (.cells (vR An nn cn sec cnt) 165);have L0:=κ (Blk.below' J0.out U0);have L1:=κ (Blk.below' J1.out U0);have L2:=κ (Blk.below' J2.out U0);have HNA:=η HN.out U0
  go_upto_region 4 with fail
  clear U0 J0 J1 J2 HN e0 e1 e2 e3 e4 e5 e6 k0 k1 k2 k3 o0 o1 o2 o3 o4 o5 o6 b0;generalize w1.alloc (.cells (vR An nn cn sec cnt) 165)=w2 at bA KA L0 L1 L2 HNA ⊢;generalize w1.heap.size=gR' at KA ⊢;obtain⟨e0,e1,e2,e3,e4,e5,e6⟩:=q7_of L0.out;obtain⟨k0,k1,k2,k3⟩:=q4_of L1.out;obtain⟨o0,o1,o2,o3,o4,o5,o6⟩:=q7_of L2.out;obtain⟨m0,m1,m2⟩:=q3_of KA.out
  go_wp2_with fail
  refine(contains_any An nn cn ns n _ HNN HNA (by have:=HL.out;omega)).mono ?_;by_cases c1:ns.contains n=true
  ·rw[c1];have hfin:Hid (lookF ra ta bk ⟨(i:Int),s,x,p,q,n,t⟩=9):=by show _=_;rw[HLK.out,if_pos c1]
   clear c1;rintro e w3 ⟨rfl,rfl⟩
   go_wp2_with fail
   go_ret;exact⟨congrArg Ending.returned (congrArg (Value.int .i64) hfin.out.symm),bA.out⟩
  ·have c1':ns.contains n=false:=by simpa using c1
   rw[c1'];have HL2:Hid (lookF ra ta bk ⟨(i:Int),s,x,p,q,n,t⟩=(if t<sec then 10 else if t=sec∧ra≤cnt then 10 else if ta≤(no:Int) then 11 else 0)):=by show _=_;rw[HLK.out,if_neg c1]
   clear c1 c1' HLK;rintro e w3 ⟨rfl,rfl⟩;by_cases c2:t<sec
   ·have t2:decide (t<sec)=true:=by simp[c2]
    have hfin:Hid (lookF ra ta bk ⟨(i:Int),s,x,p,q,n,t⟩=10):=by show _=_;rw[HL2.out,if_pos c2]
    go_wp2_with fail
    go_ret;exact⟨congrArg Ending.returned (congrArg (Value.int .i64) hfin.out.symm),bA.out⟩
   ·have t2:decide (t<sec)=false:=by simp[c2]
    by_cases c3:t=sec
    ·have t3:(t==sec)=true:=by simp[c3]
     by_cases c4:ra≤cnt
     ·have t4:decide (ra≤cnt)=true:=by simp[c4]
      have hfin:Hid (lookF ra ta bk ⟨(i:Int),s,x,p,q,n,t⟩=10):=by show _=_;rw[HL2.out,if_neg c2,if_pos ⟨c3,c4⟩]
      clear c3
      go_wp2_with fail
      go_ret;exact⟨congrArg Ending.returned (congrArg (Value.int .i64) hfin.out.symm),bA.out⟩
     ·have t4:decide (ra≤cnt)=false:=by simp[c4]
      by_cases c5:ta≤(no:Int)
      ·have t5:decide (ta≤(no:Int))=true:=by simp[c5]
       have hfin:Hid (lookF ra ta bk ⟨(i:Int),s,x,p,q,n,t⟩=11):=by show _=_;rw[HL2.out,if_neg c2,if_neg (fun h=>c4 h.2),if_pos c5]
       clear c3
       go_wp2_with fail
       go_ret;exact⟨congrArg Ending.returned (congrArg (Value.int .i64) hfin.out.symm),bA.out⟩
      ·have t5:decide (ta≤(no:Int))=false:=by simp[c5]
       have hfin:Hid (lookF ra ta bk ⟨(i:Int),s,x,p,q,n,t⟩=0):=by show _=_;rw[HL2.out,if_neg c2,if_neg (fun h=>c4 h.2),if_neg c5]
       clear c3
       go_wp2_with fail
       go_ret;exact⟨congrArg Ending.returned (congrArg (Value.int .i64) hfin.out.symm),bA.out⟩
    ·have t3:(t==sec)=false:=by simp[c3]
     by_cases c5:ta≤(no:Int)
     ·have t5:decide (ta≤(no:Int))=true:=by simp[c5]
      have hfin:Hid (lookF ra ta bk ⟨(i:Int),s,x,p,q,n,t⟩=11):=by show _=_;rw[HL2.out,if_neg c2,if_neg (fun h=>c3 h.1),if_pos c5]
      go_wp2_with fail
      go_ret;exact⟨congrArg Ending.returned (congrArg (Value.int .i64) hfin.out.symm),bA.out⟩
     ·have t5:decide (ta≤(no:Int))=false:=by simp[c5]
      have hfin:Hid (lookF ra ta bk ⟨(i:Int),s,x,p,q,n,t⟩=0):=by show _=_;rw[HL2.out,if_neg c2,if_neg (fun h=>c3 h.1),if_neg c5]
      go_wp2_with fail
      go_ret;exact⟨congrArg Ending.returned (congrArg (Value.int .i64) hfin.out.symm),bA.out⟩
end Bki
end Go.Proofs.YtaeddnjjeholgaaGreat
