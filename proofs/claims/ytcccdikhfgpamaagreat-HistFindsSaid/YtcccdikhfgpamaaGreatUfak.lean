/- Texts side by side. -/
import Derived.Laws.FloatArith
import Derived.Test.YtcccdikhfgpamaaGreatUfae
set_option linter.unusedVariables false
set_option linter.unusedSimpArgs false
set_option maxRecDepth 100000
set_option maxHeartbeats 16000000
namespace Go.Proofs.YtcccdikhfgpamaaGreat
open Kap
namespace Bkq
open Go.ChangeShapes Go.WideShapes Go.RowKit Mem Tre Ref3 Law3 Bkp Bks
def EOk(e:En):Prop:=inI e.lf∧inI e.o.p
def ROk(m:Nat)(r:Ro):Prop:=r.ns.length≤m∧0≤r.cnt∧r.cnt≤m∧inI r.sec
structure Fw(m:Nat)(b:Bk):Prop where
 rl:b.rows.length≤1000
 ol:b.op.length≤m
 sh:0≤b.sh∧b.sh≤1000
 ca:0≤b.ca∧b.ca≤m
 ro: ∀r∈b.rows,ROk m r
 en: ∀e∈b.op,EOk e
variable {b:Bk} {l:List En} {i m:Nat}
theorem gE_mem(h:i<l.length):gE l i∈l:=by
 simp only[gE,List.getD,List.getElem?_eq_getElem h,Option.getD_some];exact List.getElem_mem h
theorem gR_mem{l:List Ro}(h:i<l.length):gR l i∈l:=by
 simp only[gR,List.getD,List.getElem?_eq_getElem h,Option.getD_some];exact List.getElem_mem h
theorem gR_ok{l:List Ro}(h: ∀r∈l,ROk m r)(i:Nat):ROk m (gR l i):=by
 by_cases hi:i<l.length
 ·exact h _ (gR_mem hi)
 ·have e:gR l i=ro0:=by simp[gR,List.getD,List.getElem?_eq_none (Nat.le_of_not_lt hi)]
  rw[e];exact⟨Nat.zero_le _,by decide,by show(0:Int)≤m;omega,by decide,by decide⟩
theorem Fw.few(h:Fw m b)(hm:m≤1000):FewB b:=by
 refine⟨h.rl,by have:=h.ol;omega,fun i a=>?_,h.sh,?_,fun i a=>?_,fun i a=>(h.ro _ (gR_mem a)).2.2.2⟩
 ·have:=(h.ro _ (gR_mem a)).1;omega
 ·have:=h.ca;omega
 ·have:=(h.ro _ (gR_mem a)).2;omega
theorem Fw.lf(h:Fw m b): ∀i,i<b.op.length→inI (gE b.op i).lf:=fun i a=>(h.en _ (gE_mem a)).1
theorem Fw.mono{m':Nat}(h:Fw m b)(hm:m≤m'):Fw m' b:=by
 refine⟨h.rl,by have:=h.ol;omega,h.sh,by have:=h.ca;omega,fun r a=>?_,h.en⟩;obtain⟨e,c,f,d⟩:=h.ro r a;exact⟨by omega,c,by omega,d⟩
def beginB(n:Nat)(sh:Int):Bk:=⟨sh,0,List.replicate n ro0,[]⟩
theorem Fw_begin{n:Nat}{sh:Int}(hn:n≤1000)(h0:0≤sh)(h1:sh≤1000):Fw 0 (beginB n sh):=by
 refine⟨by simp[beginB];exact hn,by simp[beginB],⟨h0,h1⟩,⟨(by show(0:Int)≤0;omega),(by show(0:Int)≤((0:Nat):Int);omega)⟩,fun r a=>?_,fun e c=>by simp[beginB]at c⟩;have e:=List.eq_of_mem_replicate a;rw[e];exact⟨by decide,by decide,by decide,by decide,by decide⟩
theorem usedF_ok{r:Ro}(h:ROk m r)(n t wi:Int)(ht:inI t):ROk (m+1) (usedF r n t wi):=by
 obtain⟨a,c,d,e⟩:=h;refine⟨?_,?_,?_,ht⟩
 ·show(List.drop _ _).length≤_;rw[List.length_drop,List.length_append];simp only[List.length_cons,List.length_nil];omega
 ·show 0≤(if r.sec=t then r.cnt else 0)+1;split<;>omega
 ·show(if r.sec=t then r.cnt else 0)+1≤((m+1:Nat):Int);split<;>omega
theorem Fw_add(h:Fw m b)(sk wi:Int)(o:Od)(ep:Int)(ht:inI o.t)(hp:inI o.p)(hq:inI o.q):Fw (m+1) (addF sk wi b o ep):=by
 refine⟨?_,?_,h.sh,?_,fun r d=>?_,fun e f=>?_⟩
 ·show(List.set _ _ _).length≤_;rw[List.length_set];exact h.rl
 ·show(_++_:List En).length≤_;rw[List.length_append];have:=h.ol;simp only[List.length_cons,List.length_nil];omega
 ·show 0≤b.ca+1∧b.ca+1≤_;have:=h.ca;omega
 ·rcases List.mem_or_eq_of_mem_set d with a|a
  ·obtain⟨a,g,k,j⟩:=h.ro r a;exact⟨by omega,g,by omega,j⟩
  ·rw[a];exact usedF_ok (gR_ok h.ro _) _ _ _ ht
 ·have c:e∈b.op++[_]:=f;rcases List.mem_append.1 c with a|a
  ·exact h.en e a
  ·simp only[List.mem_cons,List.not_mem_nil,or_false]at a;rw[a];exact⟨hq,hp⟩
theorem delE_mem{e:En}(h:e∈delE l i):e∈l:=by
 rcases List.mem_append.1 h with h1|h1
 ·exact List.mem_of_mem_take h1
 ·exact List.mem_of_mem_drop h1
theorem delE_le(l:List En)(i:Nat):(delE l i).length≤l.length:=by
 unfold delE;rw[List.length_append,List.length_take,List.length_drop];omega
theorem Fw_op(h:Fw m b)(op:List En)(hl:op.length≤m)(he: ∀e∈op,EOk e):Fw m ⟨b.sh,b.ca,b.rows,op⟩:=⟨h.rl,hl,h.sh,h.ca,h.ro,he⟩
theorem Fw_fill(h:Fw m b)(k q:Int):Fw m (fillF b k q).1:=by
 unfold fillF;split
 ·exact h
 ·rename_i hq
  split
  ·rename_i hp
   split
   ·exact h
   ·rename_i hl
    split
    ·exact Fw_op h _ (by have:=delE_le b.op (posE b.op k);have:=h.ol;omega) (fun e a=>h.en e (delE_mem a))
    ·refine Fw_op h _ (by rw[List.length_set];exact h.ol) (fun e a=>?_);rcases List.mem_or_eq_of_mem_set a with h1|h1
     ·exact h.en e h1
     ·rw[h1];obtain⟨c,d⟩:=h.en _ (gE_mem hp);refine⟨?_,d⟩;show inI (_-q);obtain⟨f,g⟩:=c;exact⟨by omega,by omega⟩
  ·exact h
theorem Fw_ack(h:Fw m b)(k:Int):Fw m (ackF b k).1:=by
 unfold ackF;split
 ·split
  ·exact h
  ·exact Fw_op h _ (by have:=delE_le b.op (posE b.op k);have:=h.ol;omega) (fun e a=>h.en e (delE_mem a))
 ·exact h
theorem Fw_cancel(h:Fw m b)(k:Int):Fw m (cancelF b k).1:=by
 unfold cancelF;split
 ·rename_i hp
  split
  ·exact h
  ·refine Fw_op h _ (by rw[List.length_set];exact h.ol) (fun e a=>?_);rcases List.mem_or_eq_of_mem_set a with h1|h1
   ·exact h.en e h1
   ·rw[h1];exact(h.en _ (gE_mem hp):EOk (gE b.op (posE b.op k)))
 ·exact h
end Bkq
namespace Flo
open Ieee
def B:Nat:=4503599627370496
def INF:Nat:=9218868437227405312
def SGN:Nat:=9223372036854775808
def mag(R:Nat):Nat:=if R<B then R else B+R%B
def lift(R:Nat):Nat:=if R<B then 0 else R / B-1
def N(R:Nat):Nat:=mag R*2^lift R
variable {L R S V W b c:Nat}
theorem read_fin(s:Bool)(R:Nat)(h:R<INF):double.read (double.word s R)= .number s (mag R) (-1074+(lift R:Int)):=by
 have a:double.signWeight=SGN:=rfl;have e:double.binade=B:=rfl;have f:double.infRung=INF:=rfl;have g:double.leastPlace= -1074:=rfl;have i:R<SGN:=by unfold INF at h;unfold SGN;omega
 have d:(double.word s R) / SGN%2=(if s then 1 else 0)∧(double.word s R)%SGN=R:=by
  unfold Format.word;rw[a];unfold SGN at *;cases s<;>simp<;>omega
 unfold Format.read;rw[a,e,f,g,d.1,d.2];unfold mag lift;by_cases hb:R<B
 ·cases s<;>simp[hb]
 ·cases s<;>simp[hb,h]
theorem read_inf(s:Bool):double.read (double.word s INF)= .infinity s:=by
 have a:double.signWeight=SGN:=rfl;have e:double.binade=B:=rfl;have f:double.infRung=INF:=rfl
 have d:(double.word s INF) / SGN%2=(if s then 1 else 0)∧(double.word s INF)%SGN=INF:=by
  unfold Format.word;rw[a];unfold SGN INF;cases s<;>simp
 have g: ¬INF<B:=by unfold INF B;omega
 unfold Format.read;rw[a,e,f,d.1,d.2];cases s<;>simp[g]
theorem N_small(h:R<B):N R=R:=by unfold N mag lift;simp[h]
theorem N_big(h: ¬R<B):N R=(B+R%B)*2^(R / B-1):=by unfold N mag lift;simp[h]
theorem N_lt(h:R<S):N R<N S:=by
 by_cases hs:S<B
 ·rw[N_small hs,N_small (by omega)];exact h
 ·rw[N_big hs];have e:1≤S / B:=by unfold B at *;omega
  by_cases hr:R<B
  ·rw[N_small hr];have:1≤2^(S / B-1):=Nat.one_le_two_pow;have:(B+S%B)*1≤(B+S%B)*2^(S / B-1):=Nat.mul_le_mul_left _ this;omega
  ·rw[N_big hr];have a:1≤R / B:=by unfold B at *;omega
   by_cases he:R / B=S / B
   ·rw[he];exact Nat.mul_lt_mul_of_pos_right (by unfold B at *;omega) (Nat.two_pow_pos _)
   ·have d:R / B<S / B:=by have:=Nat.div_le_div_right (c:=B) (Nat.le_of_lt h);omega
    have f:(B+R%B)*2^(R / B-1)<(2*B)*2^(R / B-1):=Nat.mul_lt_mul_of_pos_right (by unfold B at *;omega) (Nat.two_pow_pos _)
    have g:(2*B)*2^(R / B-1)=B*2^(R / B):=by
     rw[Nat.mul_comm 2 B,Nat.mul_assoc,←Nat.pow_succ'];congr 2;omega
    have i:B*2^(R / B)≤B*2^(S / B-1):=Nat.mul_le_mul_left _ (Nat.pow_le_pow_right (by omega) (by omega));have j:B*2^(S / B-1)≤(B+S%B)*2^(S / B-1):=Nat.mul_le_mul_right _ (by omega);omega
theorem N_le(h:R≤S):N R≤N S:=by
 by_cases he:R=S
 ·rw[he];exact τ
 ·exact Nat.le_of_lt (N_lt (by omega))
def up(q r g:Nat):Bool:=decide (g<2*r)||(decide (g=2*r)&&decide (q%2=1))
def rne(V L:Nat):Nat:=V / 2^L+(up (V / 2^L) (V%2^L) (2^L)).toNat
theorem toNat_le(b:Bool):b.toNat≤1:=by cases b<;>simp
theorem rne_mono(h:V≤W):rne V L≤rne W L:=by
 unfold rne;have i:V / 2^L≤W / 2^L:=Nat.div_le_div_right h;by_cases he:V / 2^L=W / 2^L
 ·rw[he];have hv:=Nat.div_add_mod V (2^L);have j:=Nat.div_add_mod W (2^L);rw[he]at hv;have k:V%2^L≤W%2^L:=by omega
  have:(up (W / 2^L) (V%2^L) (2^L)).toNat≤(up (W / 2^L) (W%2^L) (2^L)).toNat:=by
   generalize V%2^L=a at *;generalize W%2^L=d at *;generalize 2^L=g at *;unfold up;by_cases h1:g<2*d
   ·simp[h1];exact toNat_le _
   ·by_cases h2:a=d
    ·rw[h2];exact τ
    ·have e: ¬g<2*a:=by omega
     have f: ¬g=2*a:=by omega
     simp[e,f]
  omega
 ·have:=toNat_le (up (V / 2^L) (V%2^L) (2^L));omega
theorem rne_hi(h:V<2*B*2^L):rne V L≤2*B:=by
 unfold rne;have:=toNat_le (up (V / 2^L) (V%2^L) (2^L));have:=(Nat.div_lt_iff_lt_mul (Nat.two_pow_pos _)).2 h;omega
theorem rne_lo(h:B*2^L≤V):B≤rne V L:=by
 unfold rne;have:=(Nat.le_div_iff_mul_le (Nat.two_pow_pos _)).2 h;omega
theorem beq_dec(a b:Nat):(a==b)=decide (a=b):=rfl
theorem cut_even(neg:Bool)(n d:Nat):Toward.even.cut neg n d=rne n d:=by
 unfold Toward.cut rne up;simp only[Nat.shiftLeft_eq,Nat.one_mul,beq_dec];by_cases hd:d≤n.log2+2
 ·rw[Nat.min_eq_left hd]
 ·rw[Nat.min_eq_right (by omega)];have f:n<2^(n.log2+1):=Nat.lt_log2_self;have g:2^(n.log2+2)=2*2^(n.log2+1):=Nat.pow_succ';have h:2^(n.log2+2)≤2^d:=Nat.pow_le_pow_right (by omega) (by omega);rw[Nat.div_eq_of_lt (b:=2^(n.log2+2)) (by omega),Nat.div_eq_of_lt (b:=2^d) (by omega),Nat.mod_eq_of_lt (b:=2^(n.log2+2)) (by omega),Nat.mod_eq_of_lt (b:=2^d) (by omega)];have a: ¬2^(n.log2+2)<2*n:=by omega
  have e: ¬2^d<2*n:=by omega
  simp[a,e]
theorem cut_zero(neg:Bool)(n d:Nat):Toward.zero.cut neg n d=n / 2^d:=by
 unfold Toward.cut;simp only[Nat.shiftLeft_eq,Nat.one_mul,Bool.toNat_false,Nat.add_zero];by_cases hd:d≤n.log2+2
 ·rw[Nat.min_eq_left hd]
 ·rw[Nat.min_eq_right (by omega)];have a:n<2^(n.log2+1):=Nat.lt_log2_self;have e:2^(n.log2+2)=2*2^(n.log2+1):=Nat.pow_succ';have f:2^(n.log2+2)≤2^d:=Nat.pow_le_pow_right (by omega) (by omega);rw[Nat.div_eq_of_lt (by omega),Nat.div_eq_of_lt (by omega)]
def lastOf(c V:Nat):Nat:=max (V.log2-52) (c-1074)
def rg(c V:Nat):Nat:=if V=0 then 0 else min ((lastOf c V-(c-1074))*B+rne V (lastOf c V)) INF
theorem log2_shift(m a:Nat)(h:m≠0):(m*2^a).log2=m.log2+a:=by
 have f:0<m*2^a:=Nat.mul_pos (by omega) (Nat.two_pow_pos _);have d:=Nat.log2_self_le h;have e:m<2^(m.log2+1):=Nat.lt_log2_self;rw[Nat.log2_eq_iff (by omega)];refine⟨?_,?_⟩
 ·rw[Nat.pow_add];exact Nat.mul_le_mul_right _ d
 ·rw[show m.log2+a+1=(m.log2+1)+a by omega,Nat.pow_add];exact Nat.mul_lt_mul_of_pos_right e (Nat.two_pow_pos _)
theorem rne_scale(m a L:Nat)(h:a<L):rne m (L-a)=rne (m*2^a) L:=by
 unfold rne;have e:2^L=2^(L-a)*2^a:=by rw[←Nat.pow_add];congr 1;omega
 have d:0<2^a:=Nat.two_pow_pos _;have f:m*2^a / 2^L=m / 2^(L-a):=by rw[e];exact Nat.mul_div_mul_right _ _ d
 have i:m*2^a%2^L=m%2^(L-a)*2^a:=by rw[e];exact Nat.mul_mod_mul_right ..
 rw[f,i,e];generalize m / 2^(L-a)=q;generalize m%2^(L-a)=r;generalize 2^(L-a)=g;generalize 2^a=t at *;unfold up
 have j:(g*t<2*(r*t))↔g<2*r:=by
  rw[←Nat.mul_assoc];exact Nat.mul_lt_mul_right d
 have k:(g*t=2*(r*t))↔g=2*r:=by
  rw[←Nat.mul_assoc];exact Nat.mul_left_inj (by omega)
 simp only[j,k]
theorem rne_exact(m a L:Nat)(h:L≤a):rne (m*2^a) L=m*2^(a-L):=by
 have e:m*2^a=m*2^(a-L)*2^L:=by rw[Nat.mul_assoc,←Nat.pow_add];congr 2;omega
 have d:0<2^L:=Nat.two_pow_pos _;unfold rne;rw[e,Nat.mul_div_cancel _ d,Nat.mul_mod_left];unfold up;simp
theorem nearest_rg(neg:Bool)(m:Nat)(e:Int)(c:Nat)(hc:1074≤c)(he:0≤e+c):
  double.nearest neg m e=double.word neg (rg c (m*2^(e+c).toNat)):=by
 unfold Format.nearest rg;by_cases hm:m=0
 ·subst hm;simp
 ·have g: ¬m*2^(e+c).toNat=0:=by
   have:=Nat.mul_pos (show 0<m by omega) (Nat.two_pow_pos (e+c).toNat);omega
  simp only[hm,g,if_false];have h:double.binade=B:=rfl;have i:double.infRung=INF:=rfl;have j:double.leastPlace= -1074:=rfl;have k:double.fractionBits=52:=rfl;rw[h,i,j,k,cut_even];obtain⟨a,l⟩: ∃a:Nat,e+c=a:=⟨(e+c).toNat,by omega⟩;have f:=log2_shift m a hm;rw[l,Int.toNat_natCast]
  have s:max (e+(m.log2:Int)-52) (-1074)+c=(lastOf c (m*2^a):Int):=by
   unfold lastOf;rw[f];omega
  have n:c-1074≤lastOf c (m*2^a):=by unfold lastOf;omega
  generalize o:lastOf c (m*2^a)=L at *;generalize max (e+(m.log2:Int)-52) (-1074)=d at *;have p:(d- -1074).toNat=L-(c-1074):=by omega
  have q:(e-d).toNat=a-L:=by omega
  have r:(d-e).toNat=L-a:=by omega
  have t:((52:Nat):Int)=52:=rfl;simp only[p,q,r]
  congr 3
  by_cases hal:a<L
  ·rw[show a-L=0 by omega,Nat.shiftLeft_zero];exact rne_scale m a L hal
  ·rw[show L-a=0 by omega,Nat.shiftLeft_eq,rne_exact m a L (by omega)];have:=rne_exact (m*2^(a-L)) 0 0 τ;simpa only[Nat.pow_zero,Nat.mul_one,Nat.sub_zero] using this
theorem p53:(2:Nat)^53=2*B:=by unfold B;decide
theorem p52:(2:Nat)^52=B:=by unfold B;decide
theorem min_mono{a:Nat}(h:a≤b):min a c≤min b c:=by omega
theorem glue{x y r1 r2:Nat}(h:x+1≤y)(a1:r1≤2*b)(a2:b≤r2):x*b+r1≤y*b+r2:=by
 have:=Nat.mul_le_mul_right b h;rw[Nat.add_mul]at this;omega
theorem rg_mono(h:V≤W):rg c V≤rg c W:=by
 unfold rg;by_cases hv:V=0
 ·simp[hv]
 ·have f: ¬W=0:=by omega
  simp only[hv,f,if_false]
  have o:V.log2≤W.log2:=by
   rw[Nat.le_log2 f];exact Nat.le_trans (Nat.log2_self_le hv) h
  have k:lastOf c V≤lastOf c W:=by unfold lastOf;omega
  refine min_mono ?_;by_cases he:lastOf c V=lastOf c W
  ·rw[he];exact Nat.add_le_add_left (rne_mono h) _
  ·have i:lastOf c W=W.log2-52∧52≤W.log2:=by unfold lastOf at *;omega
   have a:V<2*B*2^(lastOf c V):=by
    have e:V<2^(V.log2+1):=Nat.lt_log2_self;have g:V.log2+1≤lastOf c V+53:=by unfold lastOf;omega
    have j:=Nat.pow_le_pow_right (n:=2) (by omega) g;rw[Nat.pow_add 2 (lastOf c V) 53,p53,Nat.mul_comm]at j;exact Nat.lt_of_lt_of_le e j
   have d:B*2^(lastOf c W)≤W:=by
    have e:=Nat.log2_self_le f;have g:W.log2=lastOf c W+52:=by omega
    rw[g,Nat.pow_add 2 (lastOf c W) 52,p52,Nat.mul_comm]at e;exact e
   have l:=rne_hi a;have m:=rne_lo d;have p:c-1074≤lastOf c V:=by unfold lastOf;omega
   exact glue (by omega) l m
theorem rg_inf(c V:Nat):rg c V≤INF:=by
 unfold rg;split
 ·exact Nat.zero_le _
 ·exact Nat.min_le_right ..
theorem cmp_eq{a b:Int}{d:Nat}(h1:a<b↔c<d)(h2:a=b↔c=d):compare a b=compare c d:=by
 show compareOfLessAndEq a b=compareOfLessAndEq c d;unfold compareOfLessAndEq;simp only[h1,h2]
theorem signed_eq(s:Bool)(m u:Nat)(h:s=true→m=0):signed s m u=((m*2^u:Nat):Int):=by
 unfold signed;cases s with
 |false=>simp[Nat.shiftLeft_eq]
 |true=>have:=h rfl;subst this;simp
theorem mag_zero:mag 0=0:=rfl
theorem N_split(R z:Nat)(h:z≤lift R):N R=mag R*2^(lift R-z)*2^z:=by
 unfold N;rw[Nat.mul_assoc,←Nat.pow_add];congr 2;omega
theorem order_word(s t:Bool)(R S:Nat)(hR:R≤INF)(hS:S≤INF)(hs:s=true→R=0)(ht:t=true→S=0):
  double.order (double.word s R) (double.word t S)=some (compare R S):=by
 have i: ¬INF=0:=by unfold INF;omega
 unfold Format.order;by_cases h1:R=INF
 ·have d:s=false:=by cases s<;>simp_all
  rw[h1,read_inf];by_cases h2:S=INF
  ·have a:t=false:=by cases t<;>simp_all
   rw[h2,read_inf,d,a];rw[Nat.compare_eq_eq.2 rfl];rfl
  ·rw[read_fin t S (by omega),d];show some Ordering.gt=_
   congr 1
   exact(Nat.compare_eq_gt.2 (by omega)).symm
 ·by_cases h2:S=INF
  ·have a:t=false:=by cases t<;>simp_all
   rw[h2,read_inf,read_fin s R (by omega),a];show some Ordering.lt=_
   congr 1
   exact(Nat.compare_eq_lt.2 (by omega)).symm
  ·rw[read_fin s R (by omega),read_fin t S (by omega)];show some (compare _ _)=_
   congr 1
   obtain⟨z,o⟩: ∃z:Nat,z=min (lift R) (lift S):=⟨_,rfl⟩;have j:(-1074+(lift R:Int)-min (-1074+(lift R:Int)) (-1074+(lift S:Int))).toNat=lift R-z:=by omega
   have k:(-1074+(lift S:Int)-min (-1074+(lift R:Int)) (-1074+(lift S:Int))).toNat=lift S-z:=by omega
   rw[j,k,signed_eq s _ _ (fun h=>by rw[hs h];rfl),signed_eq t _ _ (fun h=>by rw[ht h];rfl)];have e:=N_split R z (by omega);have f:=N_split S z (by omega);have l:0<2^z:=Nat.two_pow_pos _
   have m:(N R<N S)↔R<S:=⟨fun h=>by
    by_cases g:R<S
    ·exact g
    ·have:=N_le (show S≤R by omega);omega,N_lt⟩
   have n:(N R=N S)↔R=S:=⟨fun h=>by
    by_cases g:R<S
    ·have:=N_lt g;omega
    ·by_cases g':S<R
     ·have:=N_lt g';omega
     ·omega,fun h=>by rw[h]⟩
   refine cmp_eq ?_ ?_
   ·rw[←m,e,f,Nat.mul_lt_mul_right l];exact Int.ofNat_lt
   ·rw[←n,e,f,Nat.mul_left_inj (by omega)];exact Int.ofNat_inj
def D(R:Nat):Nat:=N R / 2^1074
theorem D_mono(h:R≤S):D R≤D S:=Nat.div_le_div_right (N_le h)
theorem div_lo(m k z:Nat)(h:k<z):m / 2^(z-k)=m*2^k / 2^z:=by
 have e:2^z=2^(z-k)*2^k:=by rw[←Nat.pow_add];congr 1;omega
 rw[e,Nat.mul_div_mul_right _ _ (Nat.two_pow_pos _)]
theorem div_hi(m k z:Nat)(h:z≤k):m*2^(k-z)=m*2^k / 2^z:=by
 have e:m*2^k=m*2^(k-z)*2^z:=by rw[Nat.mul_assoc,←Nat.pow_add];congr 2;omega
 rw[e,Nat.mul_div_cancel _ (Nat.two_pow_pos _)]
theorem toInt_word(s:Bool)(R:Nat)(hR:R<INF)(hs:s=true→R=0):
  (double.read (double.word s R)).toInt .zero=some (D R:Int):=by
 rw[read_fin s R hR];unfold Datum.toInt Datum.integral;simp only[cut_zero];rw[signed_eq]
 ·simp only[Nat.pow_zero,Nat.mul_one,Nat.shiftLeft_eq]
  congr 2
  unfold D N;by_cases h:lift R<1074
  ·rw[show(-1074+(lift R:Int)).toNat=0 by omega,show(-(-1074+(lift R:Int))).toNat=1074-lift R by omega,Nat.pow_zero,Nat.mul_one];exact div_lo _ _ _ h
  ·rw[show(-1074+(lift R:Int)).toNat=lift R-1074 by omega,show(-(-1074+(lift R:Int))).toNat=0 by omega,Nat.pow_zero,Nat.div_one];exact div_hi _ _ _ (by omega)
 ·intro h;rw[hs h];simp[mag_zero]
def R40:Nat:=4787326403894837248
theorem D_40:D R40=1099511627776:=by decide+kernel
theorem D_le(h:R≤R40):D R≤1099511627776:=by have:=D_mono h;rw[D_40]at this;exact this
theorem toIntVal_word(s:Bool)(R:Nat)(hR:R≤R40)(hs:s=true→R=0):
  floatToIntVal .f64 (double.word s R) .i64=some (D R:Int):=by
 have g:=D_le hR;have d:R<INF:=by unfold R40 at hR;unfold INF;omega
 unfold floatToIntVal;have e:=toInt_word s R d hs;rw[show FloatKind.decode .f64 (double.word s R)=double.read (double.word s R) from rfl,e]
 have f:IntKind.i64.min≤(D R:Int)∧(D R:Int)≤IntKind.i64.max:=by
  have a:IntKind.i64.min= -9223372036854775808:=rfl;have b:IntKind.i64.max=9223372036854775807:=rfl;rw[a,b];omega
 simp only[f,and_self,if_true]
def RP(p:Nat):Nat:=rg 1074 (p*2^1074)
theorem ofInt_word(n:Int)(hn:0≤n):floatOfInt .f64 n=double.word false (RP n.toNat):=by
 unfold floatOfInt FloatKind.nearest FloatKind.encode;show double.nearest (decide (n<0)) n.natAbs 0=_;rw[nearest_rg _ _ _ 1074 (by omega) (by omega)];have a:decide (n<0)=false:=by simp;omega
 have d:n.natAbs=n.toNat:=by omega
 have e:((0:Int)+((1074:Nat):Int)).toNat=1074:=by omega
 rw[a,d,e,RP]
theorem RP_bd(p:Nat)(h:1≤p)(h':p≤1099511627776):0<RP p∧RP p<INF:=by
 have e: ∀a b:Nat,a≤b→RP a≤RP b:=fun a b d=>rg_mono (Nat.mul_le_mul_right _ d)
 have f:RP 1=4607182418800017408:=by decide+kernel
 have g:RP 1099511627776=R40:=by decide+kernel
 have:=e _ _ h;have:=e _ _ h';rw[f]at *;rw[g]at *;unfold R40 at *;unfold INF;omega
def PR(P R:Nat):Nat:=if R=INF then INF else rg 2148 (N P*N R)
theorem PR_inf(P R:Nat):PR P R≤INF:=by
 unfold PR;split
 ·exact τ
 ·exact rg_inf _ _
theorem PR_zero(P:Nat):PR P 0=0:=by
 unfold PR;rw[if_neg (by unfold INF;omega)];have:N 0=0:=rfl;rw[this,Nat.mul_zero];rfl
theorem mag_pos(h:0<R):mag R≠0:=by
 unfold mag;split
 ·omega
 ·unfold B;omega
theorem mul_word(P R:Nat)(t:Bool)(hP:0<P)(hP':P<INF)(hR:R≤INF)(ht:t=true→R=0):
  floatBits .mul .f64 (double.word false P) (double.word t R)=some (double.word t (PR P R)):=by
 show(((double.read (double.word false P)).product (double.read (double.word t R))).map double.write)=_;rw[read_fin false P hP'];by_cases h:R=INF
 ·have d: ¬INF=0:=by unfold INF;omega
  have a:t=false:=by cases t<;>simp_all
  rw[h,read_inf,a];unfold Datum.product;have:=mag_pos hP;simp only[this,if_false,Option.map_some];unfold PR;rw[if_pos rfl];rfl
 ·rw[read_fin t R (by omega)];unfold Datum.product;simp only[Option.map_some]
  congr 1
  show double.nearest (false^^t) _ _=_;rw[nearest_rg _ _ _ 2148 (by omega) (by omega)];unfold PR;rw[if_neg h]
  have e:mag P*mag R*2^((-1074+(lift P:Int))+(-1074+(lift R:Int))+(2148:Nat)).toNat=N P*N R:=by
   rw[show((-1074+(lift P:Int))+(-1074+(lift R:Int))+(2148:Nat)).toNat=lift P+lift R by omega];unfold N;rw[Nat.pow_add,Nat.mul_mul_mul_comm]
  rw[e,Bool.false_xor]
theorem sgn_neg(m u:Nat):signed true m u= -((m*2^u:Nat):Int):=by simp[signed,Nat.shiftLeft_eq]
theorem sgn_zero(u:Nat):signed false 0 u=0:=by simp[signed]
theorem cmp_neg(n:Nat)(h:0<n):compare (-(n:Int)) 0= .lt:=by
 show compareOfLessAndEq _ _=_;unfold compareOfLessAndEq;rw[if_pos (by omega)]
def Frac(b:Nat):Prop:= ∃t R,b=double.word t R∧R≤INF∧(t=true→R=0)
def rungOf(b:Nat):Nat:=b%SGN
theorem word_rung(t:Bool)(R:Nat)(h:R≤INF):rungOf (double.word t R)=R:=by
 unfold rungOf Format.word;have a:double.signWeight=SGN:=rfl;rw[a];unfold INF at h;unfold SGN;cases t<;>simp<;>omega
def rightB(b:Nat):Bool:=FloatKind.f64.format.order b 0==some .gt||FloatKind.f64.format.order b 0==some .eq
theorem right_iff(hb:b<18446744073709551616):rightB b=true↔Frac b:=by
 have z:(0:Nat)=double.word false 0:=rfl;constructor
 ·intro h
  have a:b=double.word (decide (SGN≤b)) (rungOf b):=by
   unfold Format.word rungOf;have i:double.signWeight=SGN:=rfl;rw[i];unfold SGN;by_cases g:9223372036854775808≤b
   ·simp[g];omega
   ·simp[g];omega
  by_cases hi:rungOf b≤INF
  ·refine⟨decide (SGN≤b),rungOf b,a,hi,fun d=>?_⟩;by_cases h0:rungOf b=0
   ·exact h0
   ·exfalso;unfold rightB at h;rw[d]at a;rw[show FloatKind.f64.format=double from rfl]at h
    have:double.order b 0=some .lt:=by
     unfold Format.order;rw[a];by_cases hinf:rungOf b=INF
     ·rw[hinf,read_inf];rfl
     ·rw[read_fin true (rungOf b) (by omega),show double.read 0= .number false 0 (-1074) from rfl];show some (compare _ _)=_
      congr 1
      have f:=mag_pos (R:=rungOf b) (by omega);rw[sgn_neg,sgn_zero];have:=Nat.mul_pos (Nat.pos_of_ne_zero f) (Nat.two_pow_pos ((-1074+(lift (rungOf b):Int)-min (-1074+(lift (rungOf b):Int)) (-1074))).toNat);exact cmp_neg _ this
    rw[this]at h;simp at h
  ·exfalso;unfold rightB at h;rw[show FloatKind.f64.format=double from rfl]at h
   have:double.order b 0=none:=by
    unfold Format.order
    have: ∃s t,double.read b= .nan s t:=by
     unfold Format.read;have i:double.signWeight=SGN:=rfl;have j:double.binade=B:=rfl;have k:double.infRung=INF:=rfl;rw[i,j,k];have l: ¬b%SGN<B:=by unfold rungOf INF SGN at hi;unfold SGN B;omega
     have m: ¬b%SGN<INF:=by unfold rungOf at hi;omega
     have n: ¬b%SGN=INF:=by unfold rungOf at hi;omega
     simp only[l,m,n,if_false];exact⟨_,_,rfl⟩
    obtain⟨s,t,e⟩:=this;rw[e];rfl
   rw[this]at h;simp at h
 ·rintro⟨t,R,rfl,o,p⟩;unfold rightB;rw[show FloatKind.f64.format=double from rfl];have:=order_word t false R 0 o (Nat.zero_le _) p (by simp);rw[←z]at this;rw[this];by_cases h0:R=0
  ·rw[h0];rfl
  ·rw[Nat.compare_eq_gt.2 (by omega)];rfl
end Flo
end Go.Proofs.YtcccdikhfgpamaaGreat
