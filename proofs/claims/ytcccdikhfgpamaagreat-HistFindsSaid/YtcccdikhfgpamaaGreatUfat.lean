/- Texts side by side. -/
import Derived.Deep.DeepCutAuto
import Derived.Test.YtcccdikhfgpamaaGreatUfae
set_option linter.unusedVariables false
set_option linter.unusedSimpArgs false
set_option maxRecDepth 100000
set_option maxHeartbeats 16000000
namespace Go.Proofs.YtcccdikhfgpamaaGreat
open Kap Abv Go.ChangeShapes Go.WideShapes Go.ChangeAt Go.RowKit Mem Tre Ref3 Law3 CrdB CrdC Bkp Bks
namespace Bkf
theorem index_any(A:Option Addr)(n c:Nat)(l:List Int)(v:Int)(w:World)(hn:Hid (n=l.length))(hl:Hid (Ris w w.heap.size A l))(hmax:(n:Int)≤1000000):
  Calls Tryz.prog 158 #[.slice A n c,.int .i64 v] w (fun e w'=> ∃k:Int,e= .returned (.int .i64 k)∧w'=w∧decide (0≤k)=l.contains v):=by
 go_enter Tryz.func158,Tryz.ntmps158
 go_wp2_with fail
 go_loopg [8] n (fun g s w'=> ∃i:Nat,i+g=n∧s= ι i∧Hid (∀j,j<i→gI l j≠v)∧w'=w)
 case atStart=>exact⟨0,by omega,rfl,(fun j m=>by omega),rfl⟩
 case round=>
  obtain⟨i,E,rfl,d,rfl⟩:=hrel;by_cases hlt:i<n
  ·obtain⟨g,rfl⟩: ∃g,gk=g+1:=⟨gk-1,by omega⟩;have t:decide ((i:Int)<(n:Int))=true:=by simp;omega
   obtain⟨b,o,hA,F,f⟩:=Ris.at (i:=i) hl.o (by rw[←hn.o];exact hlt);have y:=f i (by rw[←hn.o];exact hlt);subst hA;generalize q:gI l i=x at y;have r:=κ q;clear f q;by_cases hv:v=x
   ·have t1:(v==x)=true:=by simp[hv]
    have a:Hid (decide (0≤(i:Int))=l.contains v):=by
     show _=_
     have:v∈l:=by
      rw[hv,←r.o];have p:i<l.length:=by rw[←hn.o];exact hlt
      simp[gI,p]
     simp[this]
    clear hv
    go_wp2_with fail
    go_ret;exact⟨i,rfl,rfl,a.o⟩
   ·have t1:(v==x)=false:=by simp[hv]
    have h:Hid (∀j,j<i+1→gI l j≠v):=by
     intro j m;by_cases hji:j=i
     ·subst hji;rw[r.o];exact fun e=>hv e.symm
     ·exact d.o j (by omega)
    clear hv
    go_wp2_with fail
    go_roundg g
    case measure=>omega
    case rel=>exact⟨i+1,by omega,by rw[Int.natCast_add];rfl,h,rfl⟩
  ·have t:decide ((i:Int)<(n:Int))=false:=by simp;omega
   have a:Hid (decide (0≤(-1:Int))=l.contains v):=by
    show _=_
    have: ¬v∈l:=by
     intro z;obtain⟨j,m,C⟩:=List.mem_iff_getElem.1 z;refine d.o j (by have:=hn.o;omega) ?_;simp[gI,m,C]
    simp[this]
   go_wp2_with fail
   go_ret;exact⟨-1,rfl,rfl,a.o⟩
theorem contains_any(A:Option Addr)(n c:Nat)(l:List Int)(v:Int)(w:World)(hn:Hid (n=l.length))(hl:Hid (Ris w w.heap.size A l))(hmax:(n:Int)≤1000000):
  Calls Tryz.prog 132 #[.slice A n c,.int .i64 v] w (fun e w'=>e= .returned (.bool (l.contains v))∧w'=w):=by
 go_enter Tryz.func132,Tryz.ntmps132
 go_wp2_with fail
 refine(index_any A n c l v _ hn hl hmax).mono ?_;rintro e d ⟨k,rfl,rfl,a⟩;have b:=κ a;clear a
 go_wp2_with fail
 go_ret;exact⟨by rw[←b.o];rfl,rfl⟩
theorem hasR_any(A:Option Addr)(n c:Nat)(k:Int)(w:World):
  Calls Tryz.prog 131 #[.slice A n c,.int .i64 k] w (fun e w'=>e= .returned (.bool (inQ n k))∧w'=w):=by
 by_cases h0:0≤k
 ·by_cases h1:k<(n:Int)
  ·have e:Hid (inQ n k=true):=inQ_t h0 h1;have a:decide (0≤k)=true:=by simp[h0]
   have t1:decide (k<(n:Int))=true:=by simp[h1]
   clear h0 h1
   go_enter Tryz.func131,Tryz.ntmps131
   go_wp2_with fail
   go_ret;exact⟨by rw[e.o];rfl,rfl⟩
  ·have e:Hid (inQ n k=false):=inQ_f (by omega);have a:decide (0≤k)=true:=by simp[h0]
   have t1:decide (k<(n:Int))=false:=by simp[h1]
   clear h0 h1
   go_enter Tryz.func131,Tryz.ntmps131
   go_wp2_with fail
   go_ret;exact⟨by rw[e.o];rfl,rfl⟩
 ·have e:Hid (inQ n k=false):=inQ_f (by omega);have a:decide (0≤k)=false:=by simp[h0]
  clear h0
  go_enter Tryz.func131,Tryz.ntmps131
  go_wp2_with fail
  go_ret;exact⟨by rw[e.o];rfl,rfl⟩
theorem enA_eq(id a s p q n t lf st ep:Int)(x:Bool):enA ⟨id,⟨a,s,x,p,q,n,t⟩,lf,st,ep⟩= .agg #[.int .i64 id,.int .i64 a,.int .i64 s,.bool x,.int .i64 p,.int .i64 q,.int .i64 n,.int .i64 t,.int .i64 lf,.int .i64 st,.int .i64 ep]:=rfl
theorem place1_any(e:En)(gi:Nat)(k:Int)(w:World)(hc:w.cell? ⟨gi,0,none⟩=some (.int .i64 k)):
  Calls Tryz.prog 163 #[enA e,.pointer (some ⟨gi,0,none⟩)] w (fun r w'=>r= .returned (.bool (e.id==k))∧Below w.heap.size w w'):=by
 obtain⟨id,⟨a,s,x,p,q,n,t⟩,lf,d,f⟩:=e;have b:=World.block_lt_of_cell? w _ hc;have c: ∀o,(w.alloc o).cell? (α gi 0)=some (ι k):=fun o=>(World.cell?_alloc_lt _ _ _ b).trans hc
 rw[enA_eq]
 go_enter Tryz.func163,Tryz.ntmps163
 go_wp2_with fail
 go_ret;exact⟨rfl,ψ.alloc τ _⟩
theorem indexF_any(A:Option Addr)(n c:Nat)(l:List En)(gi:Nat)(kk:Int)(w:World)(hn:Hid (n=l.length))(hl:Hid (Rd w w.heap.size A (ens l)))(hmax:(n:Int)≤1000000)(hc:w.cell? ⟨gi,0,none⟩=some (.int .i64 kk)):
  Calls Tryz.prog 162 #[.slice A n c,.func (.func 163) #[] #[.pointer (some ⟨gi,0,none⟩)]] w (fun r w'=>r= .returned (.int .i64 (placeF l kk))∧Below w.heap.size w w'):=by
 have f:=World.block_lt_of_cell? w _ hc;have P:Hid (∀w',Below w.heap.size w w'→w'.cell? (α gi 0)=some (ι kk)):=fun w' H=>(H.cell (p:=(α gi 0)) f).trans hc
 clear hc f
 go_enter Tryz.func162,Tryz.ntmps162
 go_wp2_with fail
 go_loopg [8] n (fun g Q w'=> ∃i:Nat,i+g=n∧Q= ι i∧Hid (∀j,j<i→(gE l j).id≠kk)∧Hid (Below w.heap.size w w'))
 case atStart=>exact⟨0,by omega,rfl,(fun j I=>by omega),Below.refl _ _⟩
 case round=>
  obtain⟨i,hi,rfl,h,d⟩:=hrel;by_cases f:i<n
  ·obtain⟨g,rfl⟩: ∃g,gk=g+1:=⟨gk-1,by omega⟩;have R:decide ((i:Int)<(n:Int))=true:=by simp;omega
   obtain⟨b,o,hA,H,k⟩:=Ens.at (Rd.below' hl.o d.o d.o.size) (by have:=hn.o;omega);have m:=k i (by rw[←hn.o];exact f);subst hA;obtain⟨E,C⟩:=ν (gE l i);rw[←C]at m;have J:=κ C;clear k C;obtain⟨v,⟨a,s,x,p,q,n,t⟩,lf,K,L⟩:=E;obtain⟨S,T,U,V,W,X,Y,Z,c8,c9,F⟩:=m;simp only[]at S T U V W X Y Z c8 c9 F;have y:=P.o wr d.o;by_cases hv:v=kk
   ·have e:Hid (placeF l kk=(i:Int)):=by
     show _=_;have O:posE l kk=i:=posE_at l kk i h.o (by have:=hn.o;omega) (by rw[←J.o];exact hv);rw[placeF_t (by rw[O];have:=hn.o;omega),O]
    have t1:(v==kk)=true:=by simp[hv]
    clear hv
    go_wp2_with (go_at_call 163;refine(place1_any ⟨v,⟨a,s,x,p,q,n,t⟩,lf,K,L⟩ gi kk _ y).mono ?_;rw[t1];rintro r w1 ⟨rfl,G⟩)
    go_ret;exact⟨by rw[e.o];rfl,below_step d.o (by assumption)⟩
   ·have z:Hid (∀j,j<i+1→(gE l j).id≠kk):=by
     intro j I;by_cases hji:j=i
     ·subst hji;rw[←J.o];exact hv
     ·exact h.o j (by omega)
    have t1:(v==kk)=false:=by simp[hv]
    clear hv
    go_wp2_with (go_at_call 163;refine(place1_any ⟨v,⟨a,s,x,p,q,n,t⟩,lf,K,L⟩ gi kk _ y).mono ?_;rw[t1];rintro r w1 ⟨rfl,G⟩)
    go_roundg g
    case measure=>omega
    case rel=>exact⟨i+1,by omega,by rw[Int.natCast_add];rfl,z,below_step d.o (by assumption)⟩
  ·have R:decide ((i:Int)<(n:Int))=false:=by simp;omega
   have e:Hid (placeF l kk= -1):=by
    show _=_;rw[placeF_f];rw[posE_none l kk (fun j I=>h.o j (by have:=hn.o;omega))];omega
   go_wp2_with fail
   go_ret;exact⟨by rw[e.o];rfl,d.o⟩
theorem place_any(sh ca:Int)(A C:Option Addr)(nr no c d:Nat)(op:List En)(k:Int)(w:World)(HNO:Hid (no=op.length))(h:Hid (Rd w w.heap.size C (ens op)))(hmax:(no:Int)≤1000000):
  Calls Tryz.prog 138 #[.agg #[.int .i64 sh,.int .i64 ca,.slice A nr c,.slice C no d],.int .i64 k] w (fun r w'=>r= .returned (.int .i64 (placeF op k))∧Below w.heap.size w w'):=by
 have b:Hid (Below w.heap.size w ((w.alloc (.cells (vB sh ca A nr c C no d) 181)).alloc (.cells #[ι k] 3))):=γ w (.cells (vB sh ca A nr c C no d) 181) (.cells #[ι k] 3)
 have e:((w.alloc (.cells (vB sh ca A nr c C no d) 181)).alloc (.cells #[ι k] 3)).cell? (α (w.heap.size+1) 0)=some (ι k):=by
  have:=(blk_hd (by simp):Blk ((w.alloc (.cells (vB sh ca A nr c C no d) 181)).alloc (.cells #[ι k] 3)) (w.heap.size+1) 3 #[ι k]);exact this.cell 0
 go_enter Tryz.func138,Tryz.ntmps138
 go_wp2_with fail
 refine(indexF_any C no d op (w.heap.size+1) k _ HNO (Rd.below' h.o b.o b.o.size) hmax e).mono ?_;rintro r g ⟨rfl,a⟩;have f:=κ (below_step b.o a);clear a
 go_wp2_with fail
 go_ret;exact⟨rfl,f.o⟩
end Bkf
namespace Bkh
open Bkf Stk
theorem next_any(sk wi ra ta:Int)(A1 A2 A3:Option Addr)(n1 n2 n3 c1 c2 c3:Nat)(sh ca:Int)(A C:Option Addr)(nr no c d:Nat)(w:World)(h1:1≤sk)(h2:sk≤1000)(h3:0≤sh)(h4:sh≤1000)(h5:0≤ca)(h6:ca≤1000000000):
  Calls Tryz.prog 136 #[.agg #[.int .i64 sk,.int .i64 wi,.int .i64 ra,.int .i64 ta,.slice A1 n1 c1,.slice A2 n2 c2,.slice A3 n3 c3],.agg #[.int .i64 sh,.int .i64 ca,.slice A nr c,.slice C no d]] w (fun r w'=>r= .returned (.int .i64 (sh+sk*ca))∧Below w.heap.size w w'):=by
 have e:Hid (Below w.heap.size w ((w.alloc (.cells (vC sk wi ra ta A1 n1 c1 A2 n2 c2 A3 n3 c3) 43)).alloc (.cells (vB sh ca A nr c C no d) 181))):=γ w (.cells (vC sk wi ra ta A1 n1 c1 A2 n2 c2 A3 n3 c3) 43) (.cells (vB sh ca A nr c C no d) 181)
 have f:9223372036854774≤(9223372036854775807-sh).tdiv sk:=by
  rw[Int.tdiv_eq_ediv_of_nonneg (by omega)]
  exact Int.le_ediv_of_mul_le (by omega) (by
   have:9223372036854774*sk≤9223372036854774*1000:=Int.mul_le_mul_of_nonneg_left h2 (by decide)
   omega)
 have g:0≤sk*ca∧sk*ca≤1000*1000000000:=⟨Int.mul_nonneg (by omega) h5,Int.mul_le_mul h2 h6 h5 (by decide)⟩;have l:wrap64 (sk*ca)=sk*ca:=by unfold wrap64;omega
 have h:wrap64 (sh+sk*ca)=sh+sk*ca:=by unfold wrap64;omega
 have i:=κ h;have m:wrap64 (9223372036854775807-sh)=9223372036854775807-sh:=by unfold wrap64;omega
 have j:(9223372036854775807-sh).tdiv sk≤9223372036854775807:=by
  rw[Int.tdiv_eq_ediv_of_nonneg (by omega)];have:=Int.ediv_le_self (b:=sk) (show(0:Int)≤9223372036854775807-sh by omega);omega
 have t1:decide (sk<1)=false:=by simp;omega
 have t2:decide (sh<0)=false:=by simp;omega
 have t3:decide (ca<0)=false:=by simp;omega
 have n:IntKind.i64.wrap (9223372036854775807-sh)=9223372036854775807-sh:=by rw[IntKind.wrap_i64];omega
 have o:IntKind.i64.wrap ((9223372036854775807-sh).tdiv sk)=(9223372036854775807-sh).tdiv sk:=by rw[IntKind.wrap_i64];omega
 have p:wrap64 ((9223372036854775807-sh).tdiv sk)=(9223372036854775807-sh).tdiv sk:=by unfold wrap64;omega
 have t4:decide ((9223372036854775807-sh).tdiv sk≤ca)=false:=by simp;omega
 have t5:(sk==0)=false:=by rw[beq_eq_false_iff_ne];omega
 have q: ¬sk=0:=by omega
 have k:=κ h1
 go_enter Tryz.func136,Tryz.ntmps136
 go_upto_region 1 with fail
 clear f g j h1 h2 h3 h4 h5 h6
 go_quiet (fail)
 have a:Hid (Below w.heap.size w ((((w.alloc (.cells (vC sk wi ra ta A1 n1 c1 A2 n2 c2 A3 n3 c3) 43)).alloc (.cells (vB sh ca A nr c C no d) 181))).drewN nq)):=Below.drewN' e.o nq
 go_wp2_with fail
 go_ret;exact⟨congrArg Ending.returned (congrArg (Value.int .i64) i.o),a.o⟩
end Bkh
namespace Bkg
open Bkf Stk
def findE(l:List En)(k:Int):En:=if posE l k<l.length then gE l (posE l k) else en0
def findB(l:List En)(k:Int):Bool:=decide (posE l k<l.length)
theorem find_any(sh ca:Int)(A C:Option Addr)(nr no c d:Nat)(op:List En)(k:Int)(w:World)(HNO:Hid (no=op.length))(h:Hid (Rd w w.heap.size C (ens op)))(hmax:(no:Int)≤1000000):
  Calls Tryz.prog 98 #[.agg #[.int .i64 sh,.int .i64 ca,.slice A nr c,.slice C no d],.int .i64 k] w (fun r w'=>r= .returned (.tuple #[enA (findE op k),.bool (findB op k)])∧Below w.heap.size w w'):=by
 have W:=κ (γ w (.cells (vB sh ca A nr c C no d) 181) (.cells (vE 0 0 0 false 0 0 0 0 0 0 0) 203));have K0:=κ ((Blk.fresh w 181 (vB sh ca A nr c C no d)).alloc (.cells (vE 0 0 0 false 0 0 0 0 0 0 0) 203));have R0:=κ (δ (w.alloc (.cells (vB sh ca A nr c C no d) 181)) 203 (vE 0 0 0 false 0 0 0 0 0 0 0) (w.heap.size+1))
 go_enter Tryz.func98,Tryz.ntmps98
 go_wp2_with fail
 refine(place_any sh ca A C nr no c d op k _ HNO (Rd.below' h.o W.o W.o.size) hmax).mono ?_;rintro r X ⟨rfl,g⟩;have Y:=κ (below_step W.o g);have K1:=κ (Blk.below' K0.o g);have z:=κ (Blk.below' R0.o g);have H1:=κ (Rd.below' h.o Y.o Y.o.size);clear g W K0 R0 h;have G:w.heap.size≠w.heap.size+1:=by omega
 have j:Hid (w.heap.size≤w.heap.size+1):=by show _≤_;omega
 generalize w.heap.size+1=gR at z G j ⊢;obtain⟨gM,l⟩:=ν w.heap.size;have K2:=κ (ζ l K1.o);have ab:gM≠gR:=by omega
 simp only[←l];clear l K1 G;obtain⟨k0,k1,k2,k3⟩:=q4_of K2.o;obtain⟨z0,z1,z2,z3,z4,z5,z6,z7,z8,z9,ac,f0,f1,f2,F,f4,f5,f6,f7,f8,f9,ad⟩:=z11_of z.o;by_cases hp:posE op k<op.length
 ·have H:=κ (placeF_t hp);obtain⟨b,o,hA,hb,I⟩:=Ens.at H1.o (by omega);have m:=I (posE op k) hp;subst hA;have y:Hid (findE op k=gE op (posE op k)∧findB op k=true):=⟨by unfold findE;rw[if_pos hp],by unfold findB;simp[hp]⟩;have J:Hid (posE op k<no):=by show _<_;rw[HNO.o];exact hp
  rw[H.o];generalize posE op k=i at m y J ⊢;have ae:=J.o;have af:((i:Int)== -1)=false:=by rw[beq_eq_false_iff_ne];omega
  clear I hp H H1;generalize gE op i=E at m y;obtain⟨Z,⟨a,s,x,p,q,n,t⟩,lf,st,ep⟩:=E;obtain⟨c0,c1,c2,c3,c4,c5,c6,c7,c8,c9,aa⟩:=m;simp only[]at c0 c1 c2 c3 c4 c5 c6 c7 c8 c9 aa;have F:Blk (st11 X gR (ι Z) (ι a) (ι s) (.bool x) (ι p) (ι q) (ι n) (ι t) (ι lf) (ι st) (ι ep)) gR 203 (vE Z a s x p q n t lf st ep):=st11_blk z.o;have e:Below w.heap.size w (st11 X gR (ι Z) (ι a) (ι s) (.bool x) (ι p) (ι q) (ι n) (ι t) (ι lf) (ι st) (ι ep)):=st11_below Y.o j.o
  go_wp2_with fail
  obtain⟨K,L,O,P,Q,R,S,T,U,V,f⟩:=q11_of F;clear F z K2;unfold st11 at K L O P Q R S T U V f e;exact bodyPost_ret (v:= .tuple #[.agg #[ι Z,ι a,ι s,.bool x,ι p,ι q,ι n,ι t,ι lf,ι st,ι ep],.bool true]) (by simp[results,Tryz.results98,go_sem,K,L,O,P,Q,R,S,T,U,V,f]) rfl ⟨by rw[y.o.1,y.o.2];rfl,e⟩
 ·have H:=κ (placeF_f hp);have y:Hid (findE op k=en0∧findB op k=false):=⟨by unfold findE;rw[if_neg hp],by unfold findB;simp[hp]⟩;rw[H.o];clear hp H H1;have F:Blk (st11 X gR (ι 0) (ι 0) (ι 0) (.bool false) (ι 0) (ι 0) (ι 0) (ι 0) (ι 0) (ι 0) (ι 0)) gR 203 (vE 0 0 0 false 0 0 0 0 0 0 0):=st11_blk z.o;have e:Below w.heap.size w (st11 X gR (ι 0) (ι 0) (ι 0) (.bool false) (ι 0) (ι 0) (ι 0) (ι 0) (ι 0) (ι 0) (ι 0)):=st11_below Y.o j.o
  go_wp2_with fail
  obtain⟨K,L,O,P,Q,R,S,T,U,V,f⟩:=q11_of F;clear F z K2;unfold st11 at K L O P Q R S T U V f e;exact bodyPost_ret (v:= .tuple #[.agg #[ι 0,ι 0,ι 0,.bool false,ι 0,ι 0,ι 0,ι 0,ι 0,ι 0,ι 0],.bool false]) (by simp[results,Tryz.results98,go_sem,K,L,O,P,Q,R,S,T,U,V,f]) rfl ⟨by rw[y.o.1,y.o.2];rfl,e⟩
end Bkg
namespace Rba
open Crd Bkf Bkg Stk
theorem at_any(sh ca:Int)(A C:Option Addr)(nr no c d:Nat)(op:List En)(k:Int)(w:World)(HNO:Hid (no=op.length))(h:Hid (Rd w w.heap.size C (ens op)))(hmax:(no:Int)≤1000000):
  Calls Tryz.prog 106 #[.agg #[.int .i64 sh,.int .i64 ca,.slice A nr c,.slice C no d],.int .i64 k] w (fun r w'=>r= .returned (.int .i64 (placeF op k))∧Below w.heap.size w w'):=by
 have m:=κ (β w (.cells (vB sh ca A nr c C no d) 122));have q:=κ (Blk.fresh w 122 (vB sh ca A nr c C no d));have z:=κ (Rd.below' h.o m.o m.o.size)
 go_enter Tryz.func106,Tryz.ntmps106
 go_upto_region 1 with fail
 generalize w.alloc (.cells (vB sh ca A nr c C no d) 122)=G at m q z ⊢;generalize w.heap.size=gB at q ⊢;obtain⟨W,X,Y,Z⟩:=q4_of q.o
 go_wp2_with fail
 go_loopg [5] no (fun g H w'=> ∃i:Nat,i+g=no∧H= ι i∧Hid (∀j,j<i→(gE op j).id≠k)∧w'=G)
 case atStart=>exact⟨0,by omega,rfl,(fun j E=>by omega),rfl⟩
 case round=>
  obtain⟨i,hi,rfl,f,I⟩:=hrel;subst I;by_cases hlt:i<no
  ·obtain⟨s,rfl⟩: ∃s,gk=s+1:=⟨gk-1,by omega⟩;have J:decide ((i:Int)<(no:Int))=true:=by simp;omega
   have l:i<op.length:=by rw[←HNO.o];exact hlt
   obtain⟨b,o,hA,hb,n⟩:=Ens.at z.o (by omega);have t:=n i l;subst hA;obtain⟨K,L,O,P,Q,R,S,T,U,V,v⟩:=t;clear L O P Q R S T U V v n;obtain⟨x,y⟩:=ν ((gE op i).id);rw[←y]at K;have F:=κ y;clear y;by_cases hv:x=k
   ·have t1:(x==k)=true:=by simp[hv]
    have a:Hid (placeF op k=(i:Int)):=by
     show _=_;have e:=posE_at op k i f.o l (by rw[←F.o];exact hv);rw[placeF_t (by rw[e];exact l),e]
    clear hv
    go_wp2_with fail
    go_ret;exact⟨congrArg Ending.returned (congrArg (Value.int .i64) a.o.symm),m.o⟩
   ·have t1:(x==k)=false:=by simp[hv]
    have p:Hid (∀j,j<i+1→(gE op j).id≠k):=by
     intro j E;by_cases hji:j=i
     ·subst hji;rw[←F.o];exact hv
     ·exact f.o j (by omega)
    clear hv
    go_wp2_with fail
    go_roundg s
    case measure=>omega
    case rel=>exact⟨i+1,by omega,by rw[Int.natCast_add];rfl,p,rfl⟩
  ·have J:decide ((i:Int)<(no:Int))=false:=by simp;omega
   have a:Hid (placeF op k= -1):=by
    show _=_;have e:=posE_none op k (fun j E=>f.o j (by have:=HNO.o;omega));exact placeF_f (by rw[e];exact Nat.lt_irrefl _)
   go_wp2_with fail
   go_ret;exact⟨congrArg Ending.returned (congrArg (Value.int .i64) a.o.symm),m.o⟩
theorem rfind_any(sh ca:Int)(A C:Option Addr)(nr no c d:Nat)(op:List En)(k:Int)(w:World)(HNO:Hid (no=op.length))(h:Hid (Rd w w.heap.size C (ens op)))(hmax:(no:Int)≤1000000):
  Calls Tryz.prog 73 #[.agg #[.int .i64 sh,.int .i64 ca,.slice A nr c,.slice C no d],.int .i64 k] w (fun r w'=>r= .returned (.tuple #[enA (findE op k),.bool (findB op k)])∧Below w.heap.size w w'):=by
 have G:=κ (γ w (.cells (vB sh ca A nr c C no d) 122) (.cells (vE 0 0 0 false 0 0 0 0 0 0 0) 125));have K0:=κ ((Blk.fresh w 122 (vB sh ca A nr c C no d)).alloc (.cells (vE 0 0 0 false 0 0 0 0 0 0 0) 125));have R0:=κ (δ (w.alloc (.cells (vB sh ca A nr c C no d) 122)) 125 (vE 0 0 0 false 0 0 0 0 0 0 0) (w.heap.size+1));have Y:=κ (Rd.below' h.o G.o G.o.size)
 go_enter Tryz.func73,Tryz.ntmps73
 go_upto_region 1 with fail
 obtain⟨gB,m⟩:=ν w.heap.size;obtain⟨gR,y⟩:=ν (w.heap.size+1);have Z:=κ (ζ m K0.o);have R1:=κ (ζ y R0.o);have H:Hid (w.heap.size≤gR):=by show _≤_;omega
 simp only[←y];simp only[←m];clear m y K0 R0;generalize ((w.alloc (.cells (vB sh ca A nr c C no d) 122)).alloc (.cells (vE 0 0 0 false 0 0 0 0 0 0 0) 125))=w0 at G Z R1 Y ⊢;obtain⟨k0,k1,k2,k3⟩:=q4_of Z.o
 go_wp2_with fail
 refine(at_any sh ca A C nr no c d op k _ HNO Y hmax).mono ?_;rintro e w1 ⟨rfl,g⟩;have HB:=κ (CrdB.below_step G.o g);have K2:=κ (Blk.below' Z.o g);have I:=κ (Blk.below' R1.o g);have H1:=κ (Rd.below' Y.o g g.size);clear k0 k1 k2 k3 g Y Z R1 G;obtain⟨k0,k1,k2,k3⟩:=q4_of K2.o;obtain⟨z0,z1,z2,z3,z4,z5,z6,z7,z8,z9,ab,f0,f1,f2,f3,f4,f5,f6,f7,f8,f9,ac⟩:=z11_of I.o;by_cases hp:posE op k<op.length
 ·have J:=κ (placeF_t hp);obtain⟨b,o,hA,hb,K⟩:=Ens.at H1.o (by omega);have z:=K (posE op k) hp;subst hA;have F:Hid (findE op k=gE op (posE op k)∧findB op k=true):=⟨by unfold findE;rw[if_pos hp],by unfold findB;simp[hp]⟩;have L:Hid (posE op k<no):=by show _<_;rw[HNO.o];exact hp
  rw[J.o];generalize posE op k=i at z F L ⊢;have ad:=L.o;have ae:decide ((i:Int)<0)=false:=by simp only[decide_eq_false_iff_not];omega
  clear K hp J H1;generalize gE op i=E at z F;obtain⟨id,⟨a,s,x,p,q,n,t⟩,lf,st,ep⟩:=E;obtain⟨c0,c1,c2,c3,c4,c5,c6,c7,c8,c9,aa⟩:=z;simp only[]at c0 c1 c2 c3 c4 c5 c6 c7 c8 c9 aa;have j:Blk (st11 w1 gR (ι id) (ι a) (ι s) (.bool x) (ι p) (ι q) (ι n) (ι t) (ι lf) (ι st) (ι ep)) gR 125 (vE id a s x p q n t lf st ep):=st11_blk I.o;have f:Below w.heap.size w (st11 w1 gR (ι id) (ι a) (ι s) (.bool x) (ι p) (ι q) (ι n) (ι t) (ι lf) (ι st) (ι ep)):=st11_below HB.o H.o
  go_wp2_with fail
  obtain⟨O,P,Q,R,S,T,U,V,W,X,l⟩:=q11_of j;clear j I K2;unfold st11 at O P Q R S T U V W X l f;exact bodyPost_ret (v:= .tuple #[.agg #[ι id,ι a,ι s,.bool x,ι p,ι q,ι n,ι t,ι lf,ι st,ι ep],.bool true]) (by simp[results,Tryz.results73,go_sem,O,P,Q,R,S,T,U,V,W,X,l]) rfl (by rw[F.o.1,F.o.2];exact⟨rfl,f⟩)
 ·have J:=κ (placeF_f hp);have F:Hid (findE op k=en0∧findB op k=false):=⟨by unfold findE;rw[if_neg hp],by unfold findB;simp[hp]⟩;rw[J.o];clear hp J H1;have j:Blk (st11 w1 gR (ι 0) (ι 0) (ι 0) (.bool false) (ι 0) (ι 0) (ι 0) (ι 0) (ι 0) (ι 0) (ι 0)) gR 125 (vE 0 0 0 false 0 0 0 0 0 0 0):=st11_blk I.o;have f:Below w.heap.size w (st11 w1 gR (ι 0) (ι 0) (ι 0) (.bool false) (ι 0) (ι 0) (ι 0) (ι 0) (ι 0) (ι 0) (ι 0)):=st11_below HB.o H.o
  go_wp2_with fail
  obtain⟨O,P,Q,R,S,T,U,V,W,X,l⟩:=q11_of j;clear j I K2;unfold st11 at O P Q R S T U V W X l f;exact bodyPost_ret (v:= .tuple #[.agg #[ι 0,ι 0,ι 0,.bool false,ι 0,ι 0,ι 0,ι 0,ι 0,ι 0,ι 0],.bool false]) (by simp[results,Tryz.results73,go_sem,O,P,Q,R,S,T,U,V,W,X,l]) rfl (by rw[F.o.1,F.o.2];exact⟨rfl,f⟩)
end Rba
end Go.Proofs.YtcccdikhfgpamaaGreat
