/- Texts side by side. -/
import Derived.Laws.FloatArith
import Derived.WalkLawsBesides
import Derived.Laws.Externs
import Derived.Test.YtaeddnjjeholgaaGreatUgaq
set_option linter.unusedVariables false
set_option linter.unusedSimpArgs false
set_option maxRecDepth 100000
set_option maxHeartbeats 16000000
namespace Go.Proofs.YtaeddnjjeholgaaGreat
open Kap
namespace Flo
open Ieee
def B:Nat:=4503599627370496
def INF:Nat:=9218868437227405312
def SGN:Nat:=9223372036854775808
def mag(R:Nat):Nat:=if R<B then R else B+R%B
def lift(R:Nat):Nat:=if R<B then 0 else R / B-1
def N(R:Nat):Nat:=mag R*2^lift R
variable {L R S V W b c:Nat}
theorem read_fin(s:Bool)(R:Nat)(h:R<INF):double.read (double.word s R)= .number s (mag R) (-1074+(lift R:Int)):=by
 have e1:double.signWeight=SGN:=rfl;have e2:double.binade=B:=rfl;have e3:double.infRung=INF:=rfl;have e4:double.leastPlace= -1074:=rfl;have hlt:R<SGN:=by unfold INF at h;unfold SGN;omega
 have hs:(double.word s R) / SGN%2=(if s then 1 else 0)∧(double.word s R)%SGN=R:=by
  unfold Format.word;rw[e1];unfold SGN at *;cases s<;>simp<;>omega
 unfold Format.read;rw[e1,e2,e3,e4,hs.1,hs.2];unfold mag lift;by_cases hb:R<B
 ·cases s<;>simp[hb]
 ·cases s<;>simp[hb,h]
theorem read_inf(s:Bool):double.read (double.word s INF)= .infinity s:=by
 have e1:double.signWeight=SGN:=rfl;have e2:double.binade=B:=rfl;have e3:double.infRung=INF:=rfl
 have hs:(double.word s INF) / SGN%2=(if s then 1 else 0)∧(double.word s INF)%SGN=INF:=by
  unfold Format.word;rw[e1];unfold SGN INF;cases s<;>simp
 have hb: ¬INF<B:=by unfold INF B;omega
 unfold Format.read;rw[e1,e2,e3,hs.1,hs.2];cases s<;>simp[hb]
theorem N_small(h:R<B):N R=R:=by unfold N mag lift;simp[h]
theorem N_big(h: ¬R<B):N R=(B+R%B)*2^(R / B-1):=by unfold N mag lift;simp[h]
theorem N_lt(h:R<S):N R<N S:=by
 by_cases hs:S<B
 ·rw[N_small hs,N_small (by omega)];exact h
 ·rw[N_big hs];have hq:1≤S / B:=by unfold B at *;omega
  by_cases hr:R<B
  ·rw[N_small hr];have:1≤2^(S / B-1):=Nat.one_le_two_pow;have:(B+S%B)*1≤(B+S%B)*2^(S / B-1):=Nat.mul_le_mul_left _ this;omega
  ·rw[N_big hr];have hq':1≤R / B:=by unfold B at *;omega
   by_cases he:R / B=S / B
   ·rw[he];exact Nat.mul_lt_mul_of_pos_right (by unfold B at *;omega) (Nat.two_pow_pos _)
   ·have hlt:R / B<S / B:=by have:=Nat.div_le_div_right (c:=B) (Nat.le_of_lt h);omega
    have h1:(B+R%B)*2^(R / B-1)<(2*B)*2^(R / B-1):=Nat.mul_lt_mul_of_pos_right (by unfold B at *;omega) (Nat.two_pow_pos _)
    have h2:(2*B)*2^(R / B-1)=B*2^(R / B):=by
     rw[Nat.mul_comm 2 B,Nat.mul_assoc,←Nat.pow_succ'];congr 2;omega
    have h3:B*2^(R / B)≤B*2^(S / B-1):=Nat.mul_le_mul_left _ (Nat.pow_le_pow_right (by omega) (by omega));have h4:B*2^(S / B-1)≤(B+S%B)*2^(S / B-1):=Nat.mul_le_mul_right _ (by omega);omega
theorem N_le(h:R≤S):N R≤N S:=by
 by_cases he:R=S
 ·rw[he];exact τ
 ·exact Nat.le_of_lt (N_lt (by omega))
def up(q r g:Nat):Bool:=decide (g<2*r)||(decide (g=2*r)&&decide (q%2=1))
def rne(V L:Nat):Nat:=V / 2^L+(up (V / 2^L) (V%2^L) (2^L)).toNat
theorem toNat_le(b:Bool):b.toNat≤1:=by cases b<;>simp
theorem rne_mono(h:V≤W):rne V L≤rne W L:=by
 unfold rne;have hq:V / 2^L≤W / 2^L:=Nat.div_le_div_right h;by_cases he:V / 2^L=W / 2^L
 ·rw[he];have hv:=Nat.div_add_mod V (2^L);have hw:=Nat.div_add_mod W (2^L);rw[he]at hv;have hr:V%2^L≤W%2^L:=by omega
  have:(up (W / 2^L) (V%2^L) (2^L)).toNat≤(up (W / 2^L) (W%2^L) (2^L)).toNat:=by
   generalize V%2^L=r1 at *;generalize W%2^L=r2 at *;generalize 2^L=g at *;unfold up;by_cases h1:g<2*r2
   ·simp[h1];exact toNat_le _
   ·by_cases h2:r1=r2
    ·rw[h2];exact τ
    ·have a1: ¬g<2*r1:=by omega
     have a2: ¬g=2*r1:=by omega
     simp[a1,a2]
  omega
 ·have:=toNat_le (up (V / 2^L) (V%2^L) (2^L));omega
theorem rne_hi(h:V<2*B*2^L):rne V L≤2*B:=by
 unfold rne;have:=toNat_le (up (V / 2^L) (V%2^L) (2^L));have:=(Nat.div_lt_iff_lt_mul (Nat.two_pow_pos _)).2 h;omega
theorem rne_lo(h:B*2^L≤V):B≤rne V L:=by
 unfold rne;have:=(Nat.le_div_iff_mul_le (Nat.two_pow_pos _)).2 h;omega
theorem beq_dec(a b:Nat):(a==b)=decide (a=b):=rfl
theorem cut_even(neg:Bool)(n d:Nat):Toward.even.cut neg n d=rne n d:=by
 unfold Toward.cut rne up;simp only[Nat.shiftLeft_eq,Nat.one_mul,beq_dec];by_cases hd:d≤n.log2+2
 ·rw[Nat.min_eq_left hd]
 ·rw[Nat.min_eq_right (by omega)];have h1:n<2^(n.log2+1):=Nat.lt_log2_self;have h2:2^(n.log2+2)=2*2^(n.log2+1):=Nat.pow_succ';have h3:2^(n.log2+2)≤2^d:=Nat.pow_le_pow_right (by omega) (by omega);rw[Nat.div_eq_of_lt (b:=2^(n.log2+2)) (by omega),Nat.div_eq_of_lt (b:=2^d) (by omega),Nat.mod_eq_of_lt (b:=2^(n.log2+2)) (by omega),Nat.mod_eq_of_lt (b:=2^d) (by omega)];have a1: ¬2^(n.log2+2)<2*n:=by omega
  have a2: ¬2^d<2*n:=by omega
  simp[a1,a2]
theorem cut_zero(neg:Bool)(n d:Nat):Toward.zero.cut neg n d=n / 2^d:=by
 unfold Toward.cut;simp only[Nat.shiftLeft_eq,Nat.one_mul,Bool.toNat_false,Nat.add_zero];by_cases hd:d≤n.log2+2
 ·rw[Nat.min_eq_left hd]
 ·rw[Nat.min_eq_right (by omega)];have h1:n<2^(n.log2+1):=Nat.lt_log2_self;have h2:2^(n.log2+2)=2*2^(n.log2+1):=Nat.pow_succ';have h3:2^(n.log2+2)≤2^d:=Nat.pow_le_pow_right (by omega) (by omega);rw[Nat.div_eq_of_lt (by omega),Nat.div_eq_of_lt (by omega)]
def lastOf(c V:Nat):Nat:=max (V.log2-52) (c-1074)
def rg(c V:Nat):Nat:=if V=0 then 0 else min ((lastOf c V-(c-1074))*B+rne V (lastOf c V)) INF
theorem log2_shift(m a:Nat)(h:m≠0):(m*2^a).log2=m.log2+a:=by
 have hm:0<m*2^a:=Nat.mul_pos (by omega) (Nat.two_pow_pos _);have h1:=Nat.log2_self_le h;have h2:m<2^(m.log2+1):=Nat.lt_log2_self;rw[Nat.log2_eq_iff (by omega)];refine⟨?_,?_⟩
 ·rw[Nat.pow_add];exact Nat.mul_le_mul_right _ h1
 ·rw[show m.log2+a+1=(m.log2+1)+a by omega,Nat.pow_add];exact Nat.mul_lt_mul_of_pos_right h2 (Nat.two_pow_pos _)
theorem rne_scale(m a L:Nat)(h:a<L):rne m (L-a)=rne (m*2^a) L:=by
 unfold rne;have e:2^L=2^(L-a)*2^a:=by rw[←Nat.pow_add];congr 1;omega
 have hp:0<2^a:=Nat.two_pow_pos _;have e1:m*2^a / 2^L=m / 2^(L-a):=by rw[e];exact Nat.mul_div_mul_right _ _ hp
 have e2:m*2^a%2^L=m%2^(L-a)*2^a:=by rw[e];exact Nat.mul_mod_mul_right ..
 rw[e1,e2,e];generalize m / 2^(L-a)=q;generalize m%2^(L-a)=r;generalize 2^(L-a)=g;generalize 2^a=t at *;unfold up
 have k1:(g*t<2*(r*t))↔g<2*r:=by
  rw[←Nat.mul_assoc];exact Nat.mul_lt_mul_right hp
 have k2:(g*t=2*(r*t))↔g=2*r:=by
  rw[←Nat.mul_assoc];exact Nat.mul_left_inj (by omega)
 simp only[k1,k2]
theorem rne_exact(m a L:Nat)(h:L≤a):rne (m*2^a) L=m*2^(a-L):=by
 have e:m*2^a=m*2^(a-L)*2^L:=by rw[Nat.mul_assoc,←Nat.pow_add];congr 2;omega
 have hp:0<2^L:=Nat.two_pow_pos _;unfold rne;rw[e,Nat.mul_div_cancel _ hp,Nat.mul_mod_left];unfold up;simp
theorem nearest_rg(neg:Bool)(m:Nat)(e:Int)(c:Nat)(hc:1074≤c)(he:0≤e+c):
  double.nearest neg m e=double.word neg (rg c (m*2^(e+c).toNat)):=by
 unfold Format.nearest rg;by_cases hm:m=0
 ·subst hm;simp
 ·have hV: ¬m*2^(e+c).toNat=0:=by
   have:=Nat.mul_pos (show 0<m by omega) (Nat.two_pow_pos (e+c).toNat);omega
  simp only[hm,hV,if_false];have e2:double.binade=B:=rfl;have e3:double.infRung=INF:=rfl;have e4:double.leastPlace= -1074:=rfl;have e5:double.fractionBits=52:=rfl;rw[e2,e3,e4,e5,cut_even];obtain⟨a,ha⟩: ∃a:Nat,e+c=a:=⟨(e+c).toNat,by omega⟩;have hlog:=log2_shift m a hm;rw[ha,Int.toNat_natCast]
  have hL:max (e+(m.log2:Int)-52) (-1074)+c=(lastOf c (m*2^a):Int):=by
   unfold lastOf;rw[hlog];omega
  have hLe:c-1074≤lastOf c (m*2^a):=by unfold lastOf;omega
  generalize hLL:lastOf c (m*2^a)=L at *;generalize max (e+(m.log2:Int)-52) (-1074)=last at *;have k1:(last- -1074).toNat=L-(c-1074):=by omega
  have k2:(e-last).toNat=a-L:=by omega
  have k3:(last-e).toNat=L-a:=by omega
  have k4:((52:Nat):Int)=52:=rfl;simp only[k1,k2,k3]
  congr 3
  by_cases hal:a<L
  ·rw[show a-L=0 by omega,Nat.shiftLeft_zero];exact rne_scale m a L hal
  ·rw[show L-a=0 by omega,Nat.shiftLeft_eq,rne_exact m a L (by omega)];have:=rne_exact (m*2^(a-L)) 0 0 τ;simpa only[Nat.pow_zero,Nat.mul_one,Nat.sub_zero] using this
theorem p53:(2:Nat)^53=2*B:=by unfold B;decide
theorem p52:(2:Nat)^52=B:=by unfold B;decide
theorem min_mono{a:Nat}(h:a≤b):min a c≤min b c:=by omega
theorem glue{x y r1 r2:Nat}(h:x+1≤y)(a1:r1≤2*b)(a2:b≤r2):x*b+r1≤y*b+r2:=by
 have:=Nat.mul_le_mul_right b h;rw[Nat.add_mul]at this;omega
theorem rg_mono(h:V≤W):rg c V≤rg c W:=by
 unfold rg;by_cases hv:V=0
 ·simp[hv]
 ·have hw: ¬W=0:=by omega
  simp only[hv,hw,if_false]
  have hl:V.log2≤W.log2:=by
   rw[Nat.le_log2 hw];exact Nat.le_trans (Nat.log2_self_le hv) h
  have hLL:lastOf c V≤lastOf c W:=by unfold lastOf;omega
  refine min_mono ?_;by_cases he:lastOf c V=lastOf c W
  ·rw[he];exact Nat.add_le_add_left (rne_mono h) _
  ·have hbig:lastOf c W=W.log2-52∧52≤W.log2:=by unfold lastOf at *;omega
   have hVup:V<2*B*2^(lastOf c V):=by
    have h2:V<2^(V.log2+1):=Nat.lt_log2_self;have hk:V.log2+1≤lastOf c V+53:=by unfold lastOf;omega
    have h3:=Nat.pow_le_pow_right (n:=2) (by omega) hk;rw[Nat.pow_add 2 (lastOf c V) 53,p53,Nat.mul_comm]at h3;exact Nat.lt_of_lt_of_le h2 h3
   have hWlo:B*2^(lastOf c W)≤W:=by
    have h2:=Nat.log2_self_le hw;have hk:W.log2=lastOf c W+52:=by omega
    rw[hk,Nat.pow_add 2 (lastOf c W) 52,p52,Nat.mul_comm]at h2;exact h2
   have a1:=rne_hi hVup;have a2:=rne_lo hWlo;have a3:c-1074≤lastOf c V:=by unfold lastOf;omega
   exact glue (by omega) a1 a2
theorem rg_inf(c V:Nat):rg c V≤INF:=by
 unfold rg;split
 ·exact Nat.zero_le _
 ·exact Nat.min_le_right ..
theorem cmp_eq{a b:Int}{d:Nat}(h1:a<b↔c<d)(h2:a=b↔c=d):compare a b=compare c d:=by
 show compareOfLessAndEq a b=compareOfLessAndEq c d;unfold compareOfLessAndEq;simp only[h1,h2]
theorem signed_eq(s:Bool)(m u:Nat)(h:s=true→m=0):signed s m u=((m*2^u:Nat):Int):=by
 unfold signed;cases s with
 |false=>simp[Nat.shiftLeft_eq]
 |true=>have:=h rfl;subst this;simp
theorem mag_zero:mag 0=0:=rfl
theorem N_split(R z:Nat)(h:z≤lift R):N R=mag R*2^(lift R-z)*2^z:=by
 unfold N;rw[Nat.mul_assoc,←Nat.pow_add];congr 2;omega
theorem order_word(s t:Bool)(R S:Nat)(hR:R≤INF)(hS:S≤INF)(hs:s=true→R=0)(ht:t=true→S=0):
  double.order (double.word s R) (double.word t S)=some (compare R S):=by
 have hi0: ¬INF=0:=by unfold INF;omega
 unfold Format.order;by_cases h1:R=INF
 ·have hsf:s=false:=by cases s<;>simp_all
  rw[h1,read_inf];by_cases h2:S=INF
  ·have htf:t=false:=by cases t<;>simp_all
   rw[h2,read_inf,hsf,htf];rw[Nat.compare_eq_eq.2 rfl];rfl
  ·rw[read_fin t S (by omega),hsf];show some Ordering.gt=_
   congr 1
   exact(Nat.compare_eq_gt.2 (by omega)).symm
 ·by_cases h2:S=INF
  ·have htf:t=false:=by cases t<;>simp_all
   rw[h2,read_inf,read_fin s R (by omega),htf];show some Ordering.lt=_
   congr 1
   exact(Nat.compare_eq_lt.2 (by omega)).symm
  ·rw[read_fin s R (by omega),read_fin t S (by omega)];show some (compare _ _)=_
   congr 1
   obtain⟨z,hz⟩: ∃z:Nat,z=min (lift R) (lift S):=⟨_,rfl⟩;have k1:(-1074+(lift R:Int)-min (-1074+(lift R:Int)) (-1074+(lift S:Int))).toNat=lift R-z:=by omega
   have k2:(-1074+(lift S:Int)-min (-1074+(lift R:Int)) (-1074+(lift S:Int))).toNat=lift S-z:=by omega
   rw[k1,k2,signed_eq s _ _ (fun h=>by rw[hs h];rfl),signed_eq t _ _ (fun h=>by rw[ht h];rfl)];have n1:=N_split R z (by omega);have n2:=N_split S z (by omega);have hp:0<2^z:=Nat.two_pow_pos _
   have m1:(N R<N S)↔R<S:=⟨fun h=>by
    by_cases g:R<S
    ·exact g
    ·have:=N_le (show S≤R by omega);omega,N_lt⟩
   have m2:(N R=N S)↔R=S:=⟨fun h=>by
    by_cases g:R<S
    ·have:=N_lt g;omega
    ·by_cases g':S<R
     ·have:=N_lt g';omega
     ·omega,fun h=>by rw[h]⟩
   refine cmp_eq ?_ ?_
   ·rw[←m1,n1,n2,Nat.mul_lt_mul_right hp];exact Int.ofNat_lt
   ·rw[←m2,n1,n2,Nat.mul_left_inj (by omega)];exact Int.ofNat_inj
def D(R:Nat):Nat:=N R / 2^1074
theorem D_mono(h:R≤S):D R≤D S:=Nat.div_le_div_right (N_le h)
theorem div_lo(m k z:Nat)(h:k<z):m / 2^(z-k)=m*2^k / 2^z:=by
 have e:2^z=2^(z-k)*2^k:=by rw[←Nat.pow_add];congr 1;omega
 rw[e,Nat.mul_div_mul_right _ _ (Nat.two_pow_pos _)]
theorem div_hi(m k z:Nat)(h:z≤k):m*2^(k-z)=m*2^k / 2^z:=by
 have e:m*2^k=m*2^(k-z)*2^z:=by rw[Nat.mul_assoc,←Nat.pow_add];congr 2;omega
 rw[e,Nat.mul_div_cancel _ (Nat.two_pow_pos _)]
theorem toInt_word(s:Bool)(R:Nat)(hR:R<INF)(hs:s=true→R=0):
  (double.read (double.word s R)).toInt .zero=some (D R:Int):=by
 rw[read_fin s R hR];unfold Datum.toInt Datum.integral;simp only[cut_zero];rw[signed_eq]
 ·simp only[Nat.pow_zero,Nat.mul_one,Nat.shiftLeft_eq]
  congr 2
  unfold D N;by_cases h:lift R<1074
  ·rw[show(-1074+(lift R:Int)).toNat=0 by omega,show(-(-1074+(lift R:Int))).toNat=1074-lift R by omega,Nat.pow_zero,Nat.mul_one];exact div_lo _ _ _ h
  ·rw[show(-1074+(lift R:Int)).toNat=lift R-1074 by omega,show(-(-1074+(lift R:Int))).toNat=0 by omega,Nat.pow_zero,Nat.div_one];exact div_hi _ _ _ (by omega)
 ·intro h;rw[hs h];simp[mag_zero]
def R40:Nat:=4787326403894837248
theorem D_40:D R40=1099511627776:=by decide+kernel
theorem D_le(h:R≤R40):D R≤1099511627776:=by have:=D_mono h;rw[D_40]at this;exact this
theorem toIntVal_word(s:Bool)(R:Nat)(hR:R≤R40)(hs:s=true→R=0):
  floatToIntVal .f64 (double.word s R) .i64=some (D R:Int):=by
 have hd:=D_le hR;have hi:R<INF:=by unfold R40 at hR;unfold INF;omega
 unfold floatToIntVal;have e:=toInt_word s R hi hs;rw[show FloatKind.decode .f64 (double.word s R)=double.read (double.word s R) from rfl,e]
 have h1:IntKind.i64.min≤(D R:Int)∧(D R:Int)≤IntKind.i64.max:=by
  have a:IntKind.i64.min= -9223372036854775808:=rfl;have b:IntKind.i64.max=9223372036854775807:=rfl;rw[a,b];omega
 simp only[h1,and_self,if_true]
def RP(p:Nat):Nat:=rg 1074 (p*2^1074)
theorem ofInt_word(n:Int)(hn:0≤n):floatOfInt .f64 n=double.word false (RP n.toNat):=by
 unfold floatOfInt FloatKind.nearest FloatKind.encode;show double.nearest (decide (n<0)) n.natAbs 0=_;rw[nearest_rg _ _ _ 1074 (by omega) (by omega)];have e1:decide (n<0)=false:=by simp;omega
 have e2:n.natAbs=n.toNat:=by omega
 have e3:((0:Int)+((1074:Nat):Int)).toNat=1074:=by omega
 rw[e1,e2,e3,RP]
theorem RP_bd(p:Nat)(h:1≤p)(h':p≤1099511627776):0<RP p∧RP p<INF:=by
 have hm: ∀a b:Nat,a≤b→RP a≤RP b:=fun a b hab=>rg_mono (Nat.mul_le_mul_right _ hab)
 have a1:RP 1=4607182418800017408:=by decide+kernel
 have a2:RP 1099511627776=R40:=by decide+kernel
 have:=hm _ _ h;have:=hm _ _ h';rw[a1]at *;rw[a2]at *;unfold R40 at *;unfold INF;omega
def PR(P R:Nat):Nat:=if R=INF then INF else rg 2148 (N P*N R)
theorem PR_inf(P R:Nat):PR P R≤INF:=by
 unfold PR;split
 ·exact τ
 ·exact rg_inf _ _
theorem PR_zero(P:Nat):PR P 0=0:=by
 unfold PR;rw[if_neg (by unfold INF;omega)];have:N 0=0:=rfl;rw[this,Nat.mul_zero];rfl
theorem mag_pos(h:0<R):mag R≠0:=by
 unfold mag;split
 ·omega
 ·unfold B;omega
theorem mul_word(P R:Nat)(t:Bool)(hP:0<P)(hP':P<INF)(hR:R≤INF)(ht:t=true→R=0):
  floatBits .mul .f64 (double.word false P) (double.word t R)=some (double.word t (PR P R)):=by
 show(((double.read (double.word false P)).product (double.read (double.word t R))).map double.write)=_;rw[read_fin false P hP'];by_cases h:R=INF
 ·have hi0: ¬INF=0:=by unfold INF;omega
  have htf:t=false:=by cases t<;>simp_all
  rw[h,read_inf,htf];unfold Datum.product;have:=mag_pos hP;simp only[this,if_false,Option.map_some];unfold PR;rw[if_pos rfl];rfl
 ·rw[read_fin t R (by omega)];unfold Datum.product;simp only[Option.map_some]
  congr 1
  show double.nearest (false^^t) _ _=_;rw[nearest_rg _ _ _ 2148 (by omega) (by omega)];unfold PR;rw[if_neg h]
  have e:mag P*mag R*2^((-1074+(lift P:Int))+(-1074+(lift R:Int))+(2148:Nat)).toNat=N P*N R:=by
   rw[show((-1074+(lift P:Int))+(-1074+(lift R:Int))+(2148:Nat)).toNat=lift P+lift R by omega];unfold N;rw[Nat.pow_add,Nat.mul_mul_mul_comm]
  rw[e,Bool.false_xor]
theorem sgn_neg(m u:Nat):signed true m u= -((m*2^u:Nat):Int):=by simp[signed,Nat.shiftLeft_eq]
theorem sgn_zero(u:Nat):signed false 0 u=0:=by simp[signed]
theorem cmp_neg(n:Nat)(h:0<n):compare (-(n:Int)) 0= .lt:=by
 show compareOfLessAndEq _ _=_;unfold compareOfLessAndEq;rw[if_pos (by omega)]
def Frac(b:Nat):Prop:= ∃t R,b=double.word t R∧R≤INF∧(t=true→R=0)
def rungOf(b:Nat):Nat:=b%SGN
theorem word_rung(t:Bool)(R:Nat)(h:R≤INF):rungOf (double.word t R)=R:=by
 unfold rungOf Format.word;have e1:double.signWeight=SGN:=rfl;rw[e1];unfold INF at h;unfold SGN;cases t<;>simp<;>omega
def rightB(b:Nat):Bool:=FloatKind.f64.format.order b 0==some .gt||FloatKind.f64.format.order b 0==some .eq
theorem right_iff(hb:b<18446744073709551616):rightB b=true↔Frac b:=by
 have z:(0:Nat)=double.word false 0:=rfl;constructor
 ·intro h
  have hbw:b=double.word (decide (SGN≤b)) (rungOf b):=by
   unfold Format.word rungOf;have e1:double.signWeight=SGN:=rfl;rw[e1];unfold SGN;by_cases g:9223372036854775808≤b
   ·simp[g];omega
   ·simp[g];omega
  by_cases hi:rungOf b≤INF
  ·refine⟨decide (SGN≤b),rungOf b,hbw,hi,fun hneg=>?_⟩;by_cases h0:rungOf b=0
   ·exact h0
   ·exfalso;unfold rightB at h;rw[hneg]at hbw;rw[show FloatKind.f64.format=double from rfl]at h
    have:double.order b 0=some .lt:=by
     unfold Format.order;rw[hbw];by_cases hinf:rungOf b=INF
     ·rw[hinf,read_inf];rfl
     ·rw[read_fin true (rungOf b) (by omega),show double.read 0= .number false 0 (-1074) from rfl];show some (compare _ _)=_
      congr 1
      have hpos:=mag_pos (R:=rungOf b) (by omega);rw[sgn_neg,sgn_zero];have:=Nat.mul_pos (Nat.pos_of_ne_zero hpos) (Nat.two_pow_pos ((-1074+(lift (rungOf b):Int)-min (-1074+(lift (rungOf b):Int)) (-1074))).toNat);exact cmp_neg _ this
    rw[this]at h;simp at h
  ·exfalso;unfold rightB at h;rw[show FloatKind.f64.format=double from rfl]at h
   have:double.order b 0=none:=by
    unfold Format.order
    have: ∃s t,double.read b= .nan s t:=by
     unfold Format.read;have e1:double.signWeight=SGN:=rfl;have e2:double.binade=B:=rfl;have e3:double.infRung=INF:=rfl;rw[e1,e2,e3];have c1: ¬b%SGN<B:=by unfold rungOf INF SGN at hi;unfold SGN B;omega
     have c2: ¬b%SGN<INF:=by unfold rungOf at hi;omega
     have c3: ¬b%SGN=INF:=by unfold rungOf at hi;omega
     simp only[c1,c2,c3,if_false];exact⟨_,_,rfl⟩
    obtain⟨s,t,e⟩:=this;rw[e];rfl
   rw[this]at h;simp at h
 ·rintro⟨t,R,rfl,hR,ht⟩;unfold rightB;rw[show FloatKind.f64.format=double from rfl];have:=order_word t false R 0 hR (Nat.zero_le _) ht (by simp);rw[←z]at this;rw[this];by_cases h0:R=0
  ·rw[h0];rfl
  ·rw[Nat.compare_eq_gt.2 (by omega)];rfl
end Flo
namespace Bnd
open Go.ChangeShapes Go.WideShapes Go.ChangeAt Go.RowKit Flo
variable {p:Int} {R S b:Nat}
theorem run18(n:Int)(w:Go.World):(callFunc 31 #[.int .u64 n]).run Tryz.prog w= .ok (.value (.float .f64 n.toNat)) w:=
 run_callFunc_extern Tryz.func31 (by kernel_rfl) (by kernel_rfl) (by kernel_rfl) (e:=Extern.MathFloatBits.float64frombits) (by kernel_rfl) _ w
theorem right_any(b:Nat)(w:Go.World):
  Calls Tryz.prog 95 #[.float .f64 b] w fun e w'=>e= .returned (.bool (rightB b))∧w=w':=by
 go_enter Tryz.func95,Tryz.ntmps95
 go_wp2
 go_ret;exact⟨rfl,rfl⟩
theorem rright_any(b:Nat)(w:Go.World):
  Calls Tryz.prog 43 #[.float .f64 b] w fun e w'=>e= .returned (.bool (rightB b))∧w=w':=by
 go_enter Tryz.func43,Tryz.ntmps43
 go_wp2
 go_ret;exact⟨rfl,rfl⟩
theorem reach_hi(p:Int)(b r:Nat)(w:Go.World)(h:floatBits .mul .f64 (floatOfInt .f64 p) b=some r)(hg:(FloatKind.f64.format.order r 4787326403894837248==some .gt)=true):
  Calls Tryz.prog 184 #[.int .i64 p,.float .f64 b] w fun e w'=>e= .returned (.int .i64 1099511627776)∧w=w':=by
 have hop: ∀t w,(binOp .mul t (.float .f64 (floatOfInt .f64 p)) (.float .f64 b)).run Tryz.prog w= .ok (.float .f64 r) w:=fun t w=>run_float_arith w .mul t .f64 _ b r h
 clear h
 go_enter Tryz.func184,Tryz.ntmps184
 go_wp2_with (simp only[hop])
 go_ret;exact⟨rfl,rfl⟩
theorem reach_lo(p:Int)(b r:Nat)(n:Int)(w:Go.World)(h:floatBits .mul .f64 (floatOfInt .f64 p) b=some r)(hg:(FloatKind.f64.format.order r 4787326403894837248==some .gt)=false)
  (hn:floatToIntVal .f64 r .i64=some n):
  Calls Tryz.prog 184 #[.int .i64 p,.float .f64 b] w fun e w'=>e= .returned (.int .i64 n)∧w=w':=by
 have hop: ∀t w,(binOp .mul t (.float .f64 (floatOfInt .f64 p)) (.float .f64 b)).run Tryz.prog w= .ok (.float .f64 r) w:=fun t w=>run_float_arith w .mul t .f64 _ b r h
 have hc:=fun w=>run_convert_float_int w 87 2 .f64 .i64 r n (by rw[Tryz.underlying87];rfl) Tryz.underlying2 hn
 clear h hn
 go_enter Tryz.func184,Tryz.ntmps184
 go_wp2_with (first|simp only[hop]|simp only[hc])
 go_ret;exact⟨rfl,rfl⟩
def distR(R:Nat):Int:=if R40<R then 1099511627776 else (D R:Int)
def dist(p:Int)(b:Nat):Int:=distR (PR (RP p.toNat) (rungOf b))
theorem distR_bd(R:Nat):0≤distR R∧distR R≤1099511627776:=by
 unfold distR;split
 ·omega
 ·have:=D_le (R:=R) (by omega);omega
theorem dist_bd(p:Int)(b:Nat):0≤dist p b∧dist p b≤1099511627776:=distR_bd _
theorem prod_word(p:Int)(b:Nat)(hp:1≤p)(hp':p≤1099511627776)(hb:Frac b):
  ∃t,floatBits .mul .f64 (floatOfInt .f64 p) b=some (Ieee.double.word t (PR (RP p.toNat) (rungOf b)))∧(t=true→PR (RP p.toNat) (rungOf b)=0):=by
 obtain⟨t,R,rfl,h1,h2⟩:=hb;rw[word_rung t R h1,ofInt_word p (by omega)];have hr:=RP_bd p.toNat (by omega) (by omega);exact⟨t,mul_word _ R t hr.1 hr.2 h1 h2,fun h=>by rw[h2 h,PR_zero]⟩
theorem ord40(t:Bool)(R:Nat)(hR:R≤INF)(ht:t=true→R=0):FloatKind.f64.format.order (Ieee.double.word t R) 4787326403894837248=some (compare R R40):=by
 have:=order_word t false R R40 hR (by unfold R40 INF;omega) ht (by simp);exact this
theorem reach_any(p:Int)(b:Nat)(w:Go.World)(hp:1≤p)(hp':p≤1099511627776)(hb:Frac b):
  Calls Tryz.prog 184 #[.int .i64 p,.float .f64 b] w fun e w'=>e= .returned (.int .i64 (dist p b))∧w=w':=by
 obtain⟨t,h1,h2⟩:=prod_word p b hp hp' hb;have hi:=PR_inf (RP p.toNat) (rungOf b);unfold dist;generalize PR (RP p.toNat) (rungOf b)=R at *;have ho:=ord40 t R hi h2;by_cases hg:R40<R
 ·have e:distR R=1099511627776:=by unfold distR;rw[if_pos hg]
  rw[e];exact reach_hi p b _ w h1 (by rw[ho,Nat.compare_eq_gt.2 hg];rfl)
 ·have e:distR R=D R:=by unfold distR;rw[if_neg hg]
  rw[e];refine reach_lo p b _ _ w h1 ?_ (toIntVal_word t R (by omega) h2);rw[ho];by_cases he:R=R40
  ·rw[he,Nat.compare_eq_eq.2 rfl];rfl
  ·rw[Nat.compare_eq_lt.2 (by omega)];rfl
def colB(p:Int)(b:Nat):Bool:=rightB b&&decide (1≤p)&&decide (p≤1099511627776)
def colLo(p:Int)(b:Nat):Int:=if colB p b then max (p-dist p b) 1 else 0
def colHi(p:Int)(b:Nat):Int:=if colB p b then min (p+dist p b) 1099511627776 else 0
def ToldC(p:Int)(b:Nat)(w:Go.World)(e:Ending)(w':Go.World):Prop:=e= .returned (.tuple #[.int .i64 (colLo p b),.int .i64 (colHi p b),.bool (colB p b)])∧w=w'
theorem colB_t(hr:rightB b=true)(hp:1≤p)(hp':p≤1099511627776):colB p b=true:=by unfold colB;simp[hr,hp,hp']
theorem colB_f(h:rightB b=false∨p<1∨1099511627776<p):colB p b=false:=by
 unfold colB;rcases h with h|h|h
 ·simp[h]
 ·have: ¬1≤p:=by omega
  simp[this]
 ·have: ¬p≤1099511627776:=by omega
  simp[this]
theorem toldC_mk{lo hi:Int}{w:Go.World}(hc:colB p b=true)(h1:lo=max (p-dist p b) 1)(h2:hi=min (p+dist p b) 1099511627776):
  ToldC p b w (.returned (.tuple #[.int .i64 lo,.int .i64 hi,.bool true])) w:=by
 refine⟨?_,rfl⟩;unfold colLo colHi;rw[hc,h1,h2];rfl
theorem toldC_no{w:Go.World}(hc:colB p b=false):
  ToldC p b w (.returned (.tuple #[.int .i64 0,.int .i64 0,.bool false])) w:=by
 refine⟨?_,rfl⟩;unfold colLo colHi;rw[hc];rfl
theorem col_any(p:Int)(b:Nat)(w:Go.World)(hb:b<18446744073709551616):
  Calls Tryz.prog 175 #[.int .i64 p,.float .f64 b] w (ToldC p b w):=by
 by_cases hr:rightB b=true
 ·have hf:=(right_iff hb).1 hr;have hd1:=(dist_bd p b).1;have hd2:=(dist_bd p b).2;by_cases hp:p<1
  ·have hc:=κ (colB_f (p:=p) (b:=b) (Or.inr (Or.inl hp)))
   go_enter Tryz.func175,Tryz.ntmps175
   go_wp2_with (first|(go_at_call 95;refine(right_any _ _).mono ?_;rintro e w' ⟨rfl,rfl⟩))
   go_ret3;exact toldC_no hc.out
  ·by_cases hp':1099511627776<p
   ·have hc:=κ (colB_f (p:=p) (b:=b) (Or.inr (Or.inr hp')))
    go_enter Tryz.func175,Tryz.ntmps175
    go_wp2_with (first|(go_at_call 95;refine(right_any _ _).mono ?_;rintro e w' ⟨rfl,rfl⟩))
    go_ret3;exact toldC_no hc.out
   ·have hc:=κ (colB_t hr (p:=p) (by omega) (by omega))
    go_enter Tryz.func175,Tryz.ntmps175
    go_wp2_with (first|(go_at_call 95;refine(right_any _ _).mono ?_;rintro e w' ⟨rfl,rfl⟩)|(go_at_call 184;refine(reach_any p b _ (by omega) (by omega) hf).mono ?_;rintro e w' ⟨rfl,rfl⟩))
    all_goals (go_ret3;exact toldC_mk hc.out (by omega) (by omega))
 ·have hr:rightB b=false:=by simpa using hr
  have hc:=κ (colB_f (p:=p) (Or.inl hr))
  go_enter Tryz.func175,Tryz.ntmps175
  go_wp2_with (first|(go_at_call 95;refine(right_any _ _).mono ?_;rintro e w' ⟨rfl,rfl⟩))
  go_ret3;exact toldC_no hc.out
def witB(p x:Int)(b:Nat):Bool:=colB p b&&decide (colLo p b≤x)&&decide (x≤colHi p b)
theorem ret_bool{a b:Bool}(h:a=b):Ending.returned (.bool a)= .returned (.bool b):=by rw[h]
theorem wit_any(p x:Int)(b:Nat)(w:Go.World)(hb:b<18446744073709551616):
  Calls Tryz.prog 149 #[.int .i64 p,.int .i64 x,.float .f64 b] w fun e w'=>e= .returned (.bool (witB p x b))∧w=w':=by
 cases hc:colB p b with
 |false=>
  have hw:witB p x b=false:=by unfold witB;simp[hc]
  rw[hw];clear hw
  go_enter Tryz.func149,Tryz.ntmps149
  go_wp2_with (first|(go_at_call 175;refine(col_any _ _ _ hb).mono ?_;rintro e w' ⟨rfl,rfl⟩))
  go_ret;exact⟨rfl,rfl⟩
 |true=>
  have hw:witB p x b=(decide (colLo p b≤x)&&decide (x≤colHi p b)):=by unfold witB;simp[hc]
  rw[hw];clear hw;by_cases h1:colLo p b≤x
  ·by_cases h2:x≤colHi p b
   ·have e:(decide (colLo p b≤x)&&decide (x≤colHi p b))=true:=by simp[h1,h2]
    rw[e];clear e
    go_enter Tryz.func149,Tryz.ntmps149
    go_wp2_with (first|(go_at_call 175;refine(col_any _ _ _ hb).mono ?_;rintro e w' ⟨rfl,rfl⟩))
    go_ret;exact⟨rfl,rfl⟩
   ·have e:(decide (colLo p b≤x)&&decide (x≤colHi p b))=false:=by simp[h2]
    rw[e];clear e
    go_enter Tryz.func149,Tryz.ntmps149
    go_wp2_with (first|(go_at_call 175;refine(col_any _ _ _ hb).mono ?_;rintro e w' ⟨rfl,rfl⟩))
    go_ret;exact⟨ret_bool (by simp[h2]),rfl⟩
  ·have e:(decide (colLo p b≤x)&&decide (x≤colHi p b))=false:=by simp[h1]
   rw[e];clear e
   go_enter Tryz.func149,Tryz.ntmps149
   go_wp2_with (first|(go_at_call 175;refine(col_any _ _ _ hb).mono ?_;rintro e w' ⟨rfl,rfl⟩))
   go_ret;exact⟨rfl,rfl⟩
end Bnd
end Go.Proofs.YtaeddnjjeholgaaGreat
