/- Texts side by side. -/
import Derived.Test.YtcccdikhfgpamaaGreatUfaf
import Derived.Test.YtcccdikhfgpamaaGreatUfal
set_option linter.unusedVariables false
set_option linter.unusedSimpArgs false
set_option maxRecDepth 100000
set_option maxHeartbeats 16000000
namespace Go.Proofs.YtcccdikhfgpamaaGreat
open Kap Go.RowKit
namespace Fix
open Go.ChangeShapes Go.WideShapes Go.ChangeAt
def inB(x:Int):Bool:=decide (-9223372036854775808≤x∧x≤9223372036854775807)
def numV(x:Int):Int:=if inB x then x else 0
variable {a b n p x:Int}
theorem inB_t(h: -9223372036854775808≤x)(h':x≤9223372036854775807):inB x=true:=by
 unfold inB;simp[h,h']
theorem inB_f(h:x< -9223372036854775808∨9223372036854775807<x):inB x=false:=by
 unfold inB;simp;omega
theorem inB_of(h:inB x=true): -9223372036854775808≤x∧x≤9223372036854775807:=by
 unfold inB at h;simpa using h
theorem numV_t(h:inB x=true):numV x=x:=by unfold numV;simp[h]
theorem numV_f(h:inB x=false):numV x=0:=by unfold numV;simp[h]
def Told(x:Int)(w:Go.World)(e:Ending)(w':Go.World):Prop:=e= .returned (.tuple #[.int .i64 (numV x),.bool (inB x)])∧w=w'
def ToldB(b:Bool)(w:Go.World)(e:Ending)(w':Go.World):Prop:=e= .returned (.bool b)∧w=w'
theorem told_t{w:Go.World}{y:Int}(h: -9223372036854775808≤x)(h':x≤9223372036854775807)(hy:y=x):Told x w (.returned (.tuple #[.int .i64 y,.bool true])) w:=by
 have:=inB_t h h';subst hy;exact⟨by rw[numV_t this,this],rfl⟩
theorem told_f{w:Go.World}(h:x< -9223372036854775808∨9223372036854775807<x):Told x w (.returned (.tuple #[.int .i64 0,.bool false])) w:=by
 have:=inB_f h;exact⟨by rw[numV_f this,this],rfl⟩
theorem told_no{w:Go.World}(h:inB x=false):Told x w (.returned (.tuple #[.int .i64 0,.bool false])) w:=
 ⟨by rw[numV_f h,h],rfl⟩
theorem add_any(a b:Int)(w:Go.World)(ha: -9223372036854775808≤a)(ha':a≤9223372036854775807)(hb: -9223372036854775808≤b)(hb':b≤9223372036854775807):
  Calls Tryz.prog 135 #[.int .i64 a,.int .i64 b] w (Told (a+b) w):=by
 by_cases h1:0<b
 ·by_cases h2:9223372036854775807-b<a
  ·go_enter Tryz.func135,Tryz.ntmps135
   go_wp2
   go_ret2;exact told_f (by omega)
  ·go_enter Tryz.func135,Tryz.ntmps135
   go_wp2
   go_ret2;exact told_t (by omega) (by omega) rfl
 ·by_cases h3:b<0
  ·by_cases h2:a< -9223372036854775808-b
   ·go_enter Tryz.func135,Tryz.ntmps135
    go_wp2
    go_ret2;exact told_f (by omega)
   ·go_enter Tryz.func135,Tryz.ntmps135
    go_wp2
    go_ret2;exact told_t (by omega) (by omega) rfl
  ·obtain rfl:b=0:=by omega
   go_enter Tryz.func135,Tryz.ntmps135
   go_wp2
   go_ret2;exact told_t (by omega) (by omega) (by omega)
theorem wr64(h: -9223372036854775808≤x)(h':x≤9223372036854775807):wrap64 x=x:=by
 unfold wrap64;omega
theorem toldB_mk{p:Prop}[Decidable p]{b:Bool}{w:Go.World}(h:p↔b=true):ToldB b w (.returned (.bool (decide p))) w:=
 ⟨by congr 2;rw[Bool.eq_iff_iff];simpa using h,rfl⟩
theorem inB_iff:inB x=true↔(-9223372036854775808≤x∧x≤9223372036854775807):=by unfold inB;simp
theorem le_quo{q:Int}(hp:0<p):q≤n / p↔p*q≤n:=by
 rw[Int.le_ediv_iff_mul_le hp,Int.mul_comm]
theorem quo_bd(hp:0<p)(hn:0≤n):0≤n / p∧n / p≤n:=
 ⟨Int.ediv_nonneg hn (by omega),Int.ediv_le_self _ hn⟩
theorem tdiv_pos(hn:0≤n):Int.tdiv n p=n / p:=Int.tdiv_eq_ediv_of_nonneg hn
theorem tdiv_neg(hn:0≤n):Int.tdiv n p= -(n / (-p)):=by
 rw[←Int.neg_neg p,Int.tdiv_neg,tdiv_pos hn,Int.neg_neg]
theorem fits_pp(a b:Int)(w:Go.World)(ha:0<a)(ha':a≤9223372036854775807)(hb:0<b)(hb':b≤9223372036854775807):
  Calls Tryz.prog 168 #[.int .i64 a,.int .i64 b] w (ToldB (inB (a*b)) w):=by
 have c:(a==0)=false:=by simp;omega
 have d:(b==0)=false:=by simp;omega
 go_enter Tryz.func168,Tryz.ntmps168
 go_wp2
 go_ret;refine toldB_mk ?_;have:=Int.mul_pos ha hb;rw[inB_iff,le_quo hb,Int.mul_comm];omega
theorem fits_pn(a b:Int)(w:Go.World)(ha:0<a)(ha':a≤9223372036854775807)(hb:b<0)(hb': -9223372036854775808≤b):
  Calls Tryz.prog 168 #[.int .i64 a,.int .i64 b] w (ToldB (inB (a*b)) w):=by
 have e:(a==0)=false:=by simp;omega
 have f:(b==0)=false:=by simp;omega
 go_enter Tryz.func168,Tryz.ntmps168
 go_wp2
 go_ret;refine toldB_mk ?_;have g:=quo_bd ha (show(0:Int)≤9223372036854775808 by omega);have c:=le_quo (q:= -b) (n:=9223372036854775808) ha;have d:=Int.mul_pos ha (show 0< -b by omega);rw[Int.mul_neg]at c d;rw[tdiv_pos (by omega),wr64 (by omega) (by omega),inB_iff];omega
theorem fits_np(a b:Int)(w:Go.World)(ha:a<0)(ha': -9223372036854775808≤a)(hb:0<b)(hb':b≤9223372036854775807):
  Calls Tryz.prog 168 #[.int .i64 a,.int .i64 b] w (ToldB (inB (a*b)) w):=by
 have e:(a==0)=false:=by simp;omega
 have f:(b==0)=false:=by simp;omega
 go_enter Tryz.func168,Tryz.ntmps168
 go_wp2
 go_ret;refine toldB_mk ?_;have g:=quo_bd hb (show(0:Int)≤9223372036854775808 by omega);have c:=le_quo (q:= -a) (n:=9223372036854775808) hb;have d:=Int.mul_pos hb (show 0< -a by omega);rw[Int.mul_neg,Int.mul_comm b a]at c d;rw[tdiv_pos (by omega),wr64 (by omega) (by omega),inB_iff];omega
theorem fits_nn(a b:Int)(w:Go.World)(ha:a<0)(ha': -9223372036854775808≤a)(hb:b<0)(hb': -9223372036854775808≤b):
  Calls Tryz.prog 168 #[.int .i64 a,.int .i64 b] w (ToldB (inB (a*b)) w):=by
 have e:(a==0)=false:=by simp;omega
 have f:(b==0)=false:=by simp;omega
 go_enter Tryz.func168,Tryz.ntmps168
 go_wp2
 go_ret;refine toldB_mk ?_;have g:=quo_bd (show 0< -b by omega) (show(0:Int)≤9223372036854775807 by omega);have c:=le_quo (q:= -a) (n:=9223372036854775807) (show 0< -b by omega);have d:=Int.mul_pos (show 0< -b by omega) (show 0< -a by omega);rw[Int.neg_mul_neg,Int.mul_comm b a]at c d;rw[tdiv_neg (by omega),wr64 (by omega) (by omega),inB_iff];omega
theorem fits_z1(b:Int)(w:Go.World):
  Calls Tryz.prog 168 #[.int .i64 0,.int .i64 b] w (ToldB (inB (0*b)) w):=by
 go_enter Tryz.func168,Tryz.ntmps168
 go_wp2
 go_ret;exact⟨by rw[Int.zero_mul];rfl,rfl⟩
theorem fits_z2(a:Int)(w:Go.World)(h1:(a==0)=false):
  Calls Tryz.prog 168 #[.int .i64 a,.int .i64 0] w (ToldB (inB (a*0)) w):=by
 go_enter Tryz.func168,Tryz.ntmps168
 go_wp2
 go_ret;exact⟨by rw[Int.mul_zero];rfl,rfl⟩
theorem fits_any(a b:Int)(w:Go.World)(ha: -9223372036854775808≤a)(ha':a≤9223372036854775807)(hb: -9223372036854775808≤b)(hb':b≤9223372036854775807):
  Calls Tryz.prog 168 #[.int .i64 a,.int .i64 b] w (ToldB (inB (a*b)) w):=by
 by_cases h:a=0
 ·subst h;exact fits_z1 b w
 by_cases h':b=0
 ·subst h';exact fits_z2 a w (by simpa using h)
 by_cases h1:0<a
 ·by_cases h2:0<b
  ·exact fits_pp a b w h1 ha' h2 hb'
  ·exact fits_pn a b w h1 ha' (by omega) hb
 ·by_cases h2:0<b
  ·exact fits_np a b w (by omega) ha h2 hb'
  ·exact fits_nn a b w (by omega) ha (by omega) hb
theorem mul_any(a b:Int)(w:Go.World)(ha: -9223372036854775808≤a)(ha':a≤9223372036854775807)(hb: -9223372036854775808≤b)(hb':b≤9223372036854775807):
  Calls Tryz.prog 156 #[.int .i64 a,.int .i64 b] w (Told (a*b) w):=by
 by_cases h:inB (a*b)=true
 ·obtain⟨c,d⟩:=inB_of h
  go_enter Tryz.func156,Tryz.ntmps156
  go_wp2_with (go_at_call 168;refine(fits_any a b _ ha ha' hb hb').mono ?_;rintro e f ⟨rfl,rfl⟩)
  go_ret2;exact told_t c d rfl
 ·have h:inB (a*b)=false:=by simpa using h
  go_enter Tryz.func156,Tryz.ntmps156
  go_wp2_with (go_at_call 168;refine(fits_any a b _ ha ha' hb hb').mono ?_;rintro e f ⟨rfl,rfl⟩)
  go_ret2;exact told_no h
def ToldU(x:Int)(w:Go.World)(e:Ending)(w':Go.World):Prop:=e= .returned (.int .u64 x)∧w=w'
def ToldUU(x y:Int)(w:Go.World)(e:Ending)(w':Go.World):Prop:=e= .returned (.tuple #[.int .u64 x,.int .u64 y])∧w=w'
theorem u64_eq{w:Go.World}(h:a=b):ToldU b w (.returned (.int .u64 a)) w:=⟨by rw[h],rfl⟩
theorem size_any(a:Int)(w:Go.World)(ha: -9223372036854775808≤a)(ha':a≤9223372036854775807):
  Calls Tryz.prog 165 #[.int .i64 a] w (ToldU (a.natAbs:Int) w):=by
 by_cases h:a<0
 ·go_enter Tryz.func165,Tryz.ntmps165
  go_wp2
  go_ret;exact u64_eq (by omega)
 ·go_enter Tryz.func165,Tryz.ntmps165
  go_wp2
  go_ret;exact u64_eq (by omega)
theorem wide_hi(al ah bl bh:Int)(p:Int)
  (hp:p=ah*bh*18446744073709551616+(ah*bl+al*bh)*4294967296+al*bl):
  ah*bh+(ah*bl+al*bl / 4294967296) / 4294967296+(al*bh+(ah*bl+al*bl / 4294967296)%4294967296) / 4294967296=p / 18446744073709551616∧
  (al*bh+(ah*bl+al*bl / 4294967296))%4294967296*4294967296+al*bl%4294967296=p%18446744073709551616:=by
 generalize al*bl=c at *;generalize ah*bl=d at *;generalize al*bh=e at *;generalize ah*bh=f at *;omega
theorem wide_core(x y al ah bl bh:Int)(w:Go.World)(h1:x%4294967296=al)(h2:x / 4294967296=ah)(h3:y%4294967296=bl)(h4:y / 4294967296=bh)
  (hx:0≤x)(hx':x≤18446744073709551615)(hy:0≤y)(hy':y≤18446744073709551615)
  (p1:0≤al*bl)(p1':al*bl≤18446744065119617025)(p2:0≤ah*bl)(p2':ah*bl≤18446744065119617025)
  (p3:0≤al*bh)(p3':al*bh≤18446744065119617025)(p4:0≤ah*bh)(p4':ah*bh≤18446744065119617025):
  Calls Tryz.prog 164 #[.int .u64 x,.int .u64 y] w (ToldUU (ah*bh+(ah*bl+al*bl / 4294967296) / 4294967296+(al*bh+(ah*bl+al*bl / 4294967296)%4294967296) / 4294967296) ((al*bh+(ah*bl+al*bl / 4294967296))%4294967296*4294967296+al*bl%4294967296) w):=by
 go_enter Tryz.func164,Tryz.ntmps164
 go_wp2
 exact bodyPost_ret (v:= .tuple #[.int .u64 (ah*bh+(ah*bl+al*bl / 4294967296) / 4294967296+(al*bh+(ah*bl+al*bl / 4294967296)%4294967296) / 4294967296),.int .u64 ((al*bh+(ah*bl+al*bl / 4294967296))%4294967296*4294967296+al*bl%4294967296)]) (by simp[results,Tryz.results164,go_sem]) rfl ⟨rfl,rfl⟩
theorem prod_bd(ha:0≤a)(ha':a≤4294967295)(hb:0≤b)(hb':b≤4294967295):0≤a*b∧a*b≤18446744065119617025:=
 ⟨Int.mul_nonneg ha hb,Int.le_trans (Int.mul_le_mul ha' hb' hb (by omega)) (by omega)⟩
theorem wide_prod(x y al ah bl bh:Int)(h1:x=ah*4294967296+al)(h2:y=bh*4294967296+bl):
  x*y=ah*bh*18446744073709551616+(ah*bl+al*bh)*4294967296+al*bl:=by
 subst h1 h2;simp only[Int.add_mul,Int.mul_add]
 have c:ah*4294967296*(bh*4294967296)=ah*bh*18446744073709551616:=by
  rw[Int.mul_assoc,Int.mul_left_comm 4294967296 bh,←Int.mul_assoc];rfl
 have d:ah*4294967296*bl=ah*bl*4294967296:=by
  rw[Int.mul_assoc,Int.mul_comm 4294967296 bl,←Int.mul_assoc]
 have e:al*(bh*4294967296)=al*bh*4294967296:=by rw[←Int.mul_assoc]
 omega
theorem wide_any(x y:Int)(w:Go.World)
  (hx:0≤x)(hx':x≤18446744073709551615)(hy:0≤y)(hy':y≤18446744073709551615):
  Calls Tryz.prog 164 #[.int .u64 x,.int .u64 y] w (ToldUU (x*y / 18446744073709551616) (x*y%18446744073709551616) w):=by
 have c:0≤x%4294967296∧x%4294967296≤4294967295:=by omega
 have d:0≤x / 4294967296∧x / 4294967296≤4294967295:=by omega
 have e:0≤y%4294967296∧y%4294967296≤4294967295:=by omega
 have f:0≤y / 4294967296∧y / 4294967296≤4294967295:=by omega
 have l:=wide_prod x y (x%4294967296) (x / 4294967296) (y%4294967296) (y / 4294967296) (by omega) (by omega);have g:=wide_hi (x%4294967296) (x / 4294967296) (y%4294967296) (y / 4294967296) (x*y) l;have h:=prod_bd c.1 c.2 e.1 e.2;have i:=prod_bd d.1 d.2 e.1 e.2;have j:=prod_bd c.1 c.2 f.1 f.2;have k:=prod_bd d.1 d.2 f.1 f.2;rw[←g.1,←g.2];exact wide_core x y _ _ _ _ w rfl rfl rfl rfl hx hx' hy hy' h.1 h.2 i.1 i.2 j.1 j.2 k.1 k.2
theorem abs_mul(a b:Int):((a.natAbs:Int)*(b.natAbs:Int))=((a*b).natAbs:Int):=by
 rw[Int.natAbs_mul];simp
theorem sgn_same(h:a<0↔b<0):0≤a*b:=by
 by_cases ha:a<0
 ·have:=Int.mul_pos (show 0< -a by omega) (show 0< -b by omega);rw[Int.neg_mul_neg]at this;omega
 ·exact Int.mul_nonneg (by omega) (by omega)
theorem sgn_other(h: ¬(a<0↔b<0)):a*b≤0:=by
 by_cases ha:a<0
 ·have:=Int.mul_nonneg (show 0≤ -a by omega) (show 0≤b by omega);rw[Int.neg_mul]at this;omega
 ·have:=Int.mul_nonneg (show 0≤a by omega) (show 0≤ -b by omega);rw[Int.mul_neg]at this;omega
theorem rmul_small(a b m:Int)(w:Go.World)(ha: -9223372036854775808≤a)(ha':a≤9223372036854775807)(hb: -9223372036854775808≤b)(hb':b≤9223372036854775807)
  (hm:((a*b).natAbs:Int)=m)(hm1:0≤m)(hm2:m≤18446744073709551615)
  (HW: ∀w,Calls Tryz.prog 164 #[.int .u64 (a.natAbs:Int),.int .u64 (b.natAbs:Int)] w (ToldUU 0 m w)):
  Calls Tryz.prog 141 #[.int .i64 a,.int .i64 b] w (Told (a*b) w):=by
 by_cases hs:a<0↔b<0
 ·have f:(decide (a<0)==decide (b<0))=true:=by simp[hs]
  have d:=sgn_same hs;have H:RowKit.Hid (a*b=m):=by show a*b=m;omega
  clear hm d hs;by_cases h2:9223372036854775807<m
  ·go_enter Tryz.func141,Tryz.ntmps141
   go_wp2_with (first|(go_at_call 165;refine(size_any _ _ (by omega) (by omega)).mono ?_;rintro e c ⟨rfl,rfl⟩)|(go_at_call 164;refine(HW _).mono ?_;rintro e c ⟨rfl,rfl⟩))
   go_ret2;exact told_f (by have:=H.o;omega)
  ·go_enter Tryz.func141,Tryz.ntmps141
   go_wp2_with (first|(go_at_call 165;refine(size_any _ _ (by omega) (by omega)).mono ?_;rintro e c ⟨rfl,rfl⟩)|(go_at_call 164;refine(HW _).mono ?_;rintro e c ⟨rfl,rfl⟩))
   go_ret2;exact told_t (by have:=H.o;omega) (by have:=H.o;omega) (by have:=H.o;omega)
 ·have f:(decide (a<0)==decide (b<0))=false:=by simpa using hs
  have d:=sgn_other hs;have H:RowKit.Hid (a*b= -m):=by show a*b= -m;omega
  clear hm d hs;by_cases h2:9223372036854775808<m
  ·go_enter Tryz.func141,Tryz.ntmps141
   go_wp2_with (first|(go_at_call 165;refine(size_any _ _ (by omega) (by omega)).mono ?_;rintro e c ⟨rfl,rfl⟩)|(go_at_call 164;refine(HW _).mono ?_;rintro e c ⟨rfl,rfl⟩))
   go_ret2;exact told_f (by have:=H.o;omega)
  ·by_cases h4:m=0
   ·subst h4
    go_enter Tryz.func141,Tryz.ntmps141
    go_wp2_with (first|(go_at_call 165;refine(size_any _ _ (by omega) (by omega)).mono ?_;rintro e c ⟨rfl,rfl⟩)|(go_at_call 164;refine(HW _).mono ?_;rintro e c ⟨rfl,rfl⟩))
    go_ret2;exact told_t (by have:=H.o;omega) (by have:=H.o;omega) (by have:=H.o;omega)
   ·have g:0<m:=by omega
    have h:(m==0)=false:=by simp;omega
    clear h4
    go_enter Tryz.func141,Tryz.ntmps141
    go_wp2_with (first|(go_at_call 165;refine(size_any _ _ (by omega) (by omega)).mono ?_;rintro e c ⟨rfl,rfl⟩)|(go_at_call 164;refine(HW _).mono ?_;rintro e c ⟨rfl,rfl⟩))
    go_ret2;exact told_t (by have:=H.o;omega) (by have:=H.o;omega) (by have:=H.o;omega)
theorem rmul_any(a b:Int)(w:Go.World)(ha: -9223372036854775808≤a)(ha':a≤9223372036854775807)(hb: -9223372036854775808≤b)(hb':b≤9223372036854775807):
  Calls Tryz.prog 141 #[.int .i64 a,.int .i64 b] w (Told (a*b) w):=by
 have c:=fun w=>wide_any (a.natAbs:Int) (b.natAbs:Int) w (by omega) (by omega) (by omega) (by omega)
 rw[abs_mul]at c;generalize d:((a*b).natAbs:Int)=m at c;have f:0≤m:=by omega
 by_cases hbig:18446744073709551616≤m
 ·have g:((m / 18446744073709551616:Int)==0)=false:=by simp;omega
  have j:((m / 18446744073709551616:Int) != 0)=true:=by simp;omega
  have H:=κ d;clear d
  go_enter Tryz.func141,Tryz.ntmps141
  go_wp2_with (first|(go_at_call 165;refine(size_any _ _ (by omega) (by omega)).mono ?_;rintro e h ⟨rfl,rfl⟩)|(go_at_call 164;refine(c _).mono ?_;rintro e h ⟨rfl,rfl⟩))
  go_ret2;exact told_f (by have:=H.o;omega)
 ·have i:m / 18446744073709551616=0:=by omega
  have g:m%18446744073709551616=m:=by omega
  simp only[i,g]at c;exact rmul_small a b m w ha ha' hb hb' d f (by omega) c
def noB(a b:Int):Bool:=decide (0≤a)&&decide (0≤b)&&inB (a*b)
def noV(a b:Int):Int:=if noB a b then a*b else 0
def ToldN(a b:Int)(w:Go.World)(e:Ending)(w':Go.World):Prop:=e= .returned (.tuple #[.int .i64 (noV a b),.bool (noB a b)])∧w=w'
theorem noB_in(h:0≤a)(h':0≤b):noB a b=inB (a*b):=by unfold noB;simp[h,h']
theorem noV_in(h:0≤a)(h':0≤b):noV a b=numV (a*b):=by unfold noV numV;rw[noB_in h h']
theorem toldN_f{w:Go.World}(h:a<0∨b<0):ToldN a b w (.returned (.tuple #[.int .i64 0,.bool false])) w:=by
 have:noB a b=false:=by unfold noB;rcases h with h|h<;>simp<;>omega
 exact⟨by unfold noV;rw[this];rfl,rfl⟩
theorem toldN_in{w:Go.World}(h:0≤a)(h':0≤b):ToldN a b w (.returned (.tuple #[.int .i64 (numV (a*b)),.bool (inB (a*b))])) w:=
 ⟨by rw[noV_in h h',noB_in h h'],rfl⟩
theorem not_any(a b:Int)(w:Go.World)(ha: -9223372036854775808≤a)(ha':a≤9223372036854775807)(hb: -9223372036854775808≤b)(hb':b≤9223372036854775807):
  Calls Tryz.prog 129 #[.int .i64 a,.int .i64 b] w (ToldN a b w):=by
 by_cases h1:a<0
 ·go_enter Tryz.func129,Tryz.ntmps129
  go_wp2
  go_ret2;exact toldN_f (Or.inl h1)
 ·by_cases h2:b<0
  ·go_enter Tryz.func129,Tryz.ntmps129
   go_wp2
   go_ret2;exact toldN_f (Or.inr h2)
  ·go_enter Tryz.func129,Tryz.ntmps129
   go_wp2_with (first|(go_at_call 156;refine(mul_any _ _ _ ha ha' hb hb').mono ?_;rintro e c ⟨rfl,rfl⟩))
   go_ret2;exact toldN_in (by omega) (by omega)
theorem rnot_any(a b:Int)(w:Go.World)(ha: -9223372036854775808≤a)(ha':a≤9223372036854775807)(hb: -9223372036854775808≤b)(hb':b≤9223372036854775807):
  Calls Tryz.prog 104 #[.int .i64 a,.int .i64 b] w (ToldN a b w):=by
 by_cases h1:a<0
 ·go_enter Tryz.func104,Tryz.ntmps104
  go_wp2
  go_ret2;exact toldN_f (Or.inl h1)
 ·by_cases h2:b<0
  ·go_enter Tryz.func104,Tryz.ntmps104
   go_wp2
   go_ret2;exact toldN_f (Or.inr h2)
  ·go_enter Tryz.func104,Tryz.ntmps104
   go_wp2_with (first|(go_at_call 141;refine(rmul_any _ _ _ ha ha' hb hb').mono ?_;rintro e c ⟨rfl,rfl⟩))
   go_ret2;exact toldN_in (by omega) (by omega)
end Fix
namespace Cfg
open Go.ChangeShapes Go.WideShapes Mem Tre Ref3 Law3 Fix3 Opn Bnd Flo
variable {a b n:Int} {l sy:List (Int×Int×Int×Nat)} {ac:List Int} {B i:Nat} {A:Option Addr} {w:World}
theorem run_store_float{P:Program}{a:Addr}{m:Mode}(k:FloatKind)(n:Nat):(store a (.float k n) m).run P w=stored P w a (.float k n) m:=run_store P w a _ m rfl
def sP(l:List (Int×Int×Int×Nat))(i:Nat):Int:=(l.getD i (0,0,0,0)).1
def sQ(l:List (Int×Int×Int×Nat))(i:Nat):Int:=(l.getD i (0,0,0,0)).2.1
def sW(l:List (Int×Int×Int×Nat))(i:Nat):Int:=(l.getD i (0,0,0,0)).2.2.1
def sB(l:List (Int×Int×Int×Nat))(i:Nat):Nat:=(l.getD i (0,0,0,0)).2.2.2
def syV(p:Int×Int×Int×Nat):List Value:=[.int .i64 p.1,.int .i64 p.2.1,.int .i64 p.2.2.1,.float .f64 p.2.2.2]
def btV(p:Int×Int×Int×Nat):List Value:=[.int .i64 p.1,.int .i64 p.2.1,.int .i64 p.2.2.1,.int .u64 (p.2.2.2:Int)]
def smbs(l:List (Int×Int×Int×Nat)):List Value:=l.flatMap syV
def btbs(l:List (Int×Int×Int×Nat)):List Value:=l.flatMap btV
theorem smbs_len(l:List (Int×Int×Int×Nat)):(smbs l).length=l.length*4:=by
 induction l with
 |nil=>rfl
 |cons p l ih=>simp[smbs,syV]at ih ⊢;omega
theorem btbs_len(l:List (Int×Int×Int×Nat)):(btbs l).length=l.length*4:=by
 induction l with
 |nil=>rfl
 |cons p l ih=>simp[btbs,btV]at ih ⊢;omega
theorem smbs_get(l:List (Int×Int×Int×Nat))(i:Nat)(hi:i<l.length):
  (smbs l)[i*4]? =some (.int .i64 (sP l i))∧(smbs l)[i*4+1]? =some (.int .i64 (sQ l i))∧(smbs l)[i*4+2]? =some (.int .i64 (sW l i))∧(smbs l)[i*4+3]? =some (.float .f64 (sB l i)):=by
 induction l generalizing i with
 |nil=>simp at hi
 |cons p l ih=>
  cases i with
  |zero=>simp[smbs,syV,sP,sQ,sW,sB]
  |succ i=>
   have:=ih i (by simpa using hi);rw[show(i+1)*4=i*4+4 by omega,show i*4+4+1=(i*4+1)+4 by omega,show i*4+4+2=(i*4+2)+4 by omega,show i*4+4+3=(i*4+3)+4 by omega];simpa[smbs,syV,sP,sQ,sW,sB] using this
theorem btbs_get(l:List (Int×Int×Int×Nat))(i:Nat)(hi:i<l.length):
  (btbs l)[i*4]? =some (.int .i64 (sP l i))∧(btbs l)[i*4+1]? =some (.int .i64 (sQ l i))∧(btbs l)[i*4+2]? =some (.int .i64 (sW l i))∧(btbs l)[i*4+3]? =some (.int .u64 (sB l i:Int)):=by
 induction l generalizing i with
 |nil=>simp at hi
 |cons p l ih=>
  cases i with
  |zero=>simp[btbs,btV,sP,sQ,sW,sB]
  |succ i=>
   have:=ih i (by simpa using hi);rw[show(i+1)*4=i*4+4 by omega,show i*4+4+1=(i*4+1)+4 by omega,show i*4+4+2=(i*4+2)+4 by omega,show i*4+4+3=(i*4+3)+4 by omega];simpa[btbs,btV,sP,sQ,sW,sB] using this
def Smb(w:World)(B:Nat)(A:Option Addr)(l:List (Int×Int×Int×Nat)):Prop:=Rd w B A (smbs l)
def Btb(w:World)(B:Nat)(A:Option Addr)(l:List (Int×Int×Int×Nat)):Prop:=Rd w B A (btbs l)
theorem Smb.at(h:Smb w B A l){i:Nat}(hi:i<l.length):
  ∃b o,A=some ⟨b,o,none⟩∧b<B∧ ∀j,j<l.length→w.cell? ⟨b,o+j*4,none⟩=some (.int .i64 (sP l j))∧w.cell? ⟨b,o+j*4+1,none⟩=some (.int .i64 (sQ l j))∧w.cell? ⟨b,o+j*4+2,none⟩=some (.int .i64 (sW l j))∧w.cell? ⟨b,o+j*4+3,none⟩=some (.float .f64 (sB l j)):=by
 obtain⟨b,o,hA,d,c⟩:=Rd.at h (by intro e;have:=smbs_len l;rw[e]at this;simp at this;omega);refine⟨b,o,hA,d,fun j f=>?_⟩;obtain⟨g,k,m,p⟩:=smbs_get l j f;exact⟨c _ _ g,by rw[Nat.add_assoc];exact c _ _ k,by rw[Nat.add_assoc];exact c _ _ m,by rw[Nat.add_assoc];exact c _ _ p⟩
theorem Btb.at(h:Btb w B A l){i:Nat}(hi:i<l.length):
  ∃b o,A=some ⟨b,o,none⟩∧b<B∧ ∀j,j<l.length→w.cell? ⟨b,o+j*4,none⟩=some (.int .i64 (sP l j))∧w.cell? ⟨b,o+j*4+1,none⟩=some (.int .i64 (sQ l j))∧w.cell? ⟨b,o+j*4+2,none⟩=some (.int .i64 (sW l j))∧w.cell? ⟨b,o+j*4+3,none⟩=some (.int .u64 (sB l j:Int)):=by
 obtain⟨b,o,hA,d,c⟩:=Rd.at h (by intro e;have:=btbs_len l;rw[e]at this;simp at this;omega);refine⟨b,o,hA,d,fun j f=>?_⟩;obtain⟨g,k,m,p⟩:=btbs_get l j f;exact⟨c _ _ g,by rw[Nat.add_assoc];exact c _ _ k,by rw[Nat.add_assoc];exact c _ _ m,by rw[Nat.add_assoc];exact c _ _ p⟩
def WfS(l:List (Int×Int×Int×Nat)):Prop:= ∀i,i<l.length→inI (sP l i)∧inI (sQ l i)∧inI (sW l i)∧sB l i<18446744073709551616
theorem smbs_snoc(l:List (Int×Int×Int×Nat))(p:Int×Int×Int×Nat):smbs (l++[p])=smbs l++[.int .i64 p.1,.int .i64 p.2.1,.int .i64 p.2.2.1,.float .f64 p.2.2.2]:=by simp[smbs,syV]
theorem takeS_snoc{k:Nat}(h:k<l.length):l.take (k+1)=l.take k++[(sP l k,sQ l k,sW l k,sB l k)]:=by
 have e:l[k]=(sP l k,sQ l k,sW l k,sB l k):=by simp[sP,sQ,sW,sB,h]
 rw[List.take_succ_eq_append_getElem h,e]
def btwB(a n b:Int):Bool:=decide (a≤n)&&decide (n≤b)
def symB(p q wo:Int)(b:Nat):Bool:=btwB 1 p 1099511627776&&btwB 1 q 1099511627776&&decide (0≤wo)&&rightB b
def sizB(sh wi ra ta:Int):Bool:=btwB 1 sh 4&&btwB 0 wi 16&&btwB 1 ra 1000&&btwB 1 ta 64
def accB(n:Nat)(ac:List Int):Bool:=decide (∀i,i<ac.length→inR n (gI ac i)=true)
def tabB(sy:List (Int×Int×Int×Nat)):Bool:=decide (∀i,i<sy.length→symB (sP sy i) (sQ sy i) (sW sy i) (sB sy i)=true)
def cfgF(sh wi ra ta:Int)(nd:List (Int×Int))(ac:List Int)(sy:List (Int×Int×Int×Nat)):Int:=
 if sizB sh wi ra ta=false then 1
 else if ¬(chk nd).1=0 then (chk nd).1
 else if ac.length=0∨32<ac.length then 3
 else if accB nd.length ac=false then 18
 else if sy.length=0∨16<sy.length then 4
 else if tabB sy=false then 1 else 0
theorem btw_t(h:a≤n)(h':n≤b):btwB a n b=true:=by simp[btwB,h,h']
theorem btw_l(h:n<a):btwB a n b=false:=by simp[btwB];omega
theorem btw_g(h:b<n):btwB a n b=false:=by simp[btwB];omega
theorem accB_f{n:Nat}(h:i<ac.length)(h':inR n (gI ac i)=false):accB n ac=false:=by
 unfold accB;simp only[decide_eq_false_iff_not];intro e;rw[e i h]at h';exact absurd h' (by decide)
theorem accB_t{n:Nat}(h: ∀i,i<ac.length→inR n (gI ac i)=true):accB n ac=true:=by
 unfold accB;simpa using h
theorem tabB_f(h:i<sy.length)(h':symB (sP sy i) (sQ sy i) (sW sy i) (sB sy i)=false):tabB sy=false:=by
 unfold tabB;simp only[decide_eq_false_iff_not];intro e;rw[e i h]at h';exact absurd h' (by decide)
theorem tabB_t(h: ∀i,i<sy.length→symB (sP sy i) (sQ sy i) (sW sy i) (sB sy i)=true):tabB sy=true:=by
 unfold tabB;simpa using h
section
variable {sh wi ra ta:Int} {nd:List (Int×Int)} {ac:List Int} {sy:List (Int×Int×Int×Nat)}
theorem cfgF_1(h:sizB sh wi ra ta=false):cfgF sh wi ra ta nd ac sy=1:=by unfold cfgF;rw[if_pos h]
theorem cfgF_2(h:sizB sh wi ra ta=true)(h2: ¬(chk nd).1=0):cfgF sh wi ra ta nd ac sy=(chk nd).1:=by
 unfold cfgF;rw[if_neg (by rw[h];decide),if_pos h2]
theorem cfgF_3(h:sizB sh wi ra ta=true)(h2:(chk nd).1=0)(h3:ac.length=0∨32<ac.length):cfgF sh wi ra ta nd ac sy=3:=by
 unfold cfgF;rw[if_neg (by rw[h];decide),if_neg (by simp[h2]),if_pos h3]
theorem cfgF_4(h:sizB sh wi ra ta=true)(h2:(chk nd).1=0)(h3: ¬(ac.length=0∨32<ac.length))(h4:accB nd.length ac=false):cfgF sh wi ra ta nd ac sy=18:=by
 unfold cfgF;rw[if_neg (by rw[h];decide),if_neg (by simp[h2]),if_neg h3,if_pos h4]
theorem cfgF_5(h:sizB sh wi ra ta=true)(h2:(chk nd).1=0)(h3: ¬(ac.length=0∨32<ac.length))(h4:accB nd.length ac=true)(h5:sy.length=0∨16<sy.length):cfgF sh wi ra ta nd ac sy=4:=by
 unfold cfgF;rw[if_neg (by rw[h];decide),if_neg (by simp[h2]),if_neg h3,if_neg (by rw[h4];decide),if_pos h5]
theorem cfgF_6(h:sizB sh wi ra ta=true)(h2:(chk nd).1=0)(h3: ¬(ac.length=0∨32<ac.length))(h4:accB nd.length ac=true)(h5: ¬(sy.length=0∨16<sy.length))(h6:tabB sy=false):cfgF sh wi ra ta nd ac sy=1:=by
 unfold cfgF;rw[if_neg (by rw[h];decide),if_neg (by simp[h2]),if_neg h3,if_neg (by rw[h4];decide),if_neg h5,if_pos h6]
theorem cfgF_7(h:sizB sh wi ra ta=true)(h2:(chk nd).1=0)(h3: ¬(ac.length=0∨32<ac.length))(h4:accB nd.length ac=true)(h5: ¬(sy.length=0∨16<sy.length))(h6:tabB sy=true):cfgF sh wi ra ta nd ac sy=0:=by
 unfold cfgF;rw[if_neg (by rw[h];decide),if_neg (by simp[h2]),if_neg h3,if_neg (by rw[h4];decide),if_neg h5,if_neg (by rw[h6];decide)]
end
def lokF(ac:List Int)(sy:List (Int×Int×Int×Nat))(a s p q n t:Int):Int×Int:=
 if p<1∨q<1∨n<0∨t<0 then (1,0)
 else if inR ac.length a=false then (3,0)
 else if inR sy.length s=false then (4,0)
 else if sQ sy s.toNat<q then (5,0)
 else if ¬Fix.inB (p*q)=true then (6,0)
 else if sW sy s.toNat<p*q then (7,0)
 else if witB (sP sy s.toNat) p (sB sy s.toNat)=false then (8,0)
 else (0,p*q)
def shaF(sh:Int)(n:Nat)(a:Int):Int:=if sh<1∨inR n a=false then-1 else a%sh
end Cfg
namespace Fcf
open Mem Tre Ref3 Law3 Fix3 Bnd Flo Cfg Crd CrdB CrdC Cpl
def modF(x m:Int):Int:=wrap64 ((IntKind.u64.wrap x).tmod m)
variable {sy:List (Int×Int×Int×Nat)} {ac:List Int} {n:Nat}
theorem modF_bd{x m:Int}(h:0<m)(h':m≤4611686018427387904):0≤modF x m∧modF x m<m:=by
 unfold modF;rw[wrap_u64,Int.tmod_eq_emod_of_nonneg (Int.emod_nonneg _ (by decide))];have a:=Int.emod_nonneg (x%18446744073709551616) (b:=m) (by omega);have b:=Int.emod_lt_of_pos (x%18446744073709551616) (b:=m) h;generalize x%18446744073709551616%m=r at *;unfold wrap64;omega
theorem getD_map{α β:Type}{l:List α}{f:α→β}{i:Nat}{d:β}(h:i<l.length):(l.map f).getD i d=f l[i]:=by simp[h]
def fixA(n:Nat)(ac:List Int):List Int:=if ac.length=0 then [(n:Int)-1] else (ac.take 5).map fun a=>modF a n
def oneS(p:Int×Int×Int×Nat):Int×Int×Int×Nat:=
 (1+modF p.1 1099511627776,1+modF p.2.1 1099511627776,if p.2.2.1<0 then 9223372036854775807 else p.2.2.1,if rightB p.2.2.2=true then p.2.2.2 else 4602678819172646912)
def fixS(sy:List (Int×Int×Int×Nat)):List (Int×Int×Int×Nat):=if sy.length=0 then [(10,100,1000,4602678819172646912)] else (sy.take 3).map oneS
theorem fixA_len:1≤(fixA n ac).length∧(fixA n ac).length≤5:=by
 unfold fixA;split
 ·simp
 ·rw[List.length_map,List.length_take];omega
theorem fixS_len:1≤(fixS sy).length∧(fixS sy).length≤3:=by
 unfold fixS;split
 ·simp
 ·rw[List.length_map,List.length_take];omega
theorem fixA_in(h:1≤n)(h':n≤1000):accB n (fixA n ac)=true:=by
 refine accB_t fun i b=>?_
 unfold fixA at b ⊢;split at b
 ·rename_i h0
  rw[if_pos h0];have:i=0:=by simp at b;omega
  subst this;exact inR_t (show 0≤(n:Int)-1 by omega) (show(n:Int)-1<n by omega)
 ·rename_i h0
  rw[if_neg h0];have c:i<(ac.take 5).length:=by simpa using b
  have e:gI ((ac.take 5).map fun a=>modF a n) i=modF ((ac.take 5)[i]) n:=getD_map c;rw[e];have:=modF_bd (x:=(ac.take 5)[i]) (m:=(n:Int)) (by omega) (by omega);exact inR_t this.1 this.2
theorem half_right:rightB 4602678819172646912=true:=by decide+kernel
theorem one_ok(p:Int×Int×Int×Nat):symB (oneS p).1 (oneS p).2.1 (oneS p).2.2.1 (oneS p).2.2.2=true:=by
 have a:=modF_bd (x:=p.1) (m:=1099511627776) (by decide) (by decide);have b:=modF_bd (x:=p.2.1) (m:=1099511627776) (by decide) (by decide);unfold symB btwB oneS;simp only[Bool.and_eq_true,decide_eq_true_eq];refine⟨⟨⟨⟨by omega,by omega⟩,⟨by omega,by omega⟩⟩,?_⟩,?_⟩
 ·split<;>omega
 ·split
  ·assumption
  ·exact half_right
theorem fixS_ok:tabB (fixS sy)=true:=by
 refine tabB_t fun i a=>?_
 unfold fixS at a ⊢;split at a
 ·rename_i h0
  rw[if_pos h0];have:i=0:=by simp at a;omega
  subst this;show symB 10 100 1000 4602678819172646912=true;unfold symB btwB;rw[half_right]
  decide
 ·rename_i h0
  rw[if_neg h0];have b:i<(sy.take 3).length:=by simpa using a
  have e:((sy.take 3).map oneS).getD i (0,0,0,0)=oneS ((sy.take 3)[i]):=getD_map b;unfold sP sQ sW sB;rw[e];exact one_ok _
theorem siz_fix(sh wi ra ta:Int):sizB (1+modF sh 3) (modF wi 4) (1+modF ra 6) (1+modF ta 8)=true:=by
 have a:=modF_bd (x:=sh) (m:=3) (by decide) (by decide);have b:=modF_bd (x:=wi) (m:=4) (by decide) (by decide);have c:=modF_bd (x:=ra) (m:=6) (by decide) (by decide);have d:=modF_bd (x:=ta) (m:=8) (by decide) (by decide);unfold sizB btwB;simp only[Bool.and_eq_true,decide_eq_true_eq];omega
theorem cfg_fix(sh wi ra ta:Int)(nd:List (Int×Int))(ac:List Int)(sy:List (Int×Int×Int×Nat)):
  cfgF (1+modF sh 3) (modF wi 4) (1+modF ra 6) (1+modF ta 8) (fixF nd) (fixA (fixF nd).length ac) (fixS sy)=0:=by
 have a:=fixF_len nd;have b:=fixA_len (n:=(fixF nd).length) (ac:=ac);have c:=fixS_len (sy:=sy);exact cfgF_7 (siz_fix sh wi ra ta) (by rw[okt_chk (okt_fixF nd) a.1 (by omega)]) (by omega) (fixA_in a.1 (by omega)) (by omega) fixS_ok
end Fcf
namespace Fown
open Abv Go.ChangeShapes Go.WideShapes Go.ChangeAt Mem Tre Ref3 Law3 Fix3
def MadeNdsR(l:List (Int×Int))(w:World)(e:Ending)(w':World):Prop:= ∃A c,e= .returned (.slice A l.length c)∧w'.ownsRow w.heap.size 133 2 (.slice A l.length c) l.length (nds l)∧Below w.heap.size w w'
variable {w:World}
theorem madeNdsR_mk{xs ys:List (Int×Int)}{A:Option Addr}{c:Nat}{w':World}(h:ys=xs)(hr:w'.ownsRow w.heap.size 133 2 (.slice A xs.length c) xs.length (nds xs))(hb:Below w.heap.size w w'):MadeNdsR ys w (.returned (.slice A xs.length c)) w':=by
 subst h;exact⟨A,c,rfl,hr,hb⟩
theorem own_one{g:Nat}{te:TypeId}{base:Nat}{a b:Value}(h:Blk w g te #[a,b])(hb:base≤g):w.ownsRow base te 2 (.slice (some ⟨g,0,none⟩) 1 1) 1 [a,b]:=
 ⟨by simp,.inr ⟨g,1,#[a,b],rfl,hb,h,τ,by unfold maxLen;omega,by simp,by simp⟩⟩
theorem fix_own(A:Option Addr)(c:Nat)(l:List (Int×Int))(w:World)(hl:Hid (Nds w w.heap.size A l))(hw:Hid (WfN l))(hmax:(l.length:Int)≤9223372036854775807):
  Calls Tryz.prog 20 #[.slice A l.length c] w (MadeNdsR (fixF l) w):=by
 obtain⟨Y,Z,x,y,z⟩:=info_parts rnode_info
 go_enter Tryz.func20,Tryz.ntmps20
 go_wp2
 go_loopg [3,4] (min l.length 10) (fun g s3 s4 w'=> ∃(k:Nat) (G:Option Addr) (O:Nat),k+g=min l.length 10∧s4= ι k∧s3= .slice G k O∧Hid (w'.ownsRow w.heap.size 133 2 (.slice G k O) k (nds (fixK l k)))∧Below w.heap.size w w')
 case atStart=>exact⟨0,none,0,by omega,rfl,rfl,World.ownsRow_nil _ _ _ _,Below.refl _ _⟩
 case round=>
  obtain⟨k,G,O,hk,rfl,rfl,j,d⟩:=hrel;by_cases hlt:k<l.length∧k<10
  ·obtain⟨g,rfl⟩: ∃g,gk=g+1:=⟨gk-1,by omega⟩;obtain⟨b,o,rfl,hb,hc⟩:=Nds.at hl.o (by omega);have P:=(d.cell (p:=(α b (o+k*2))) hb).trans (hc k (by omega)).1;have ah:=(d.cell (p:=(α b (o+k*2+1))) hb).trans (hc k (by omega)).2;obtain⟨hp,aa⟩:=hw.o k (by omega);obtain⟨ai,aj⟩:=hp;obtain⟨ak,al⟩:=aa;obtain⟨Q,am⟩:=hlt;have t1:decide ((k:Int)<10)=true:=by simp;omega
   have R:b<wr.heap.size:=by have:=d.size;omega
   have an:=fun X=>(World.cell?_alloc_lt wr X (α b (o+k*2)) R).trans P
   have HC:=κ hc;have C:=κ hk;clear hc hk P
   have s:Hid (Nds (wr.alloc (.cells (vI (nP l k%k) (wrap64 ((IntKind.u64.wrap (nC l k)).tmod 4611686018427387905))) 133)) (wr.alloc (.cells (vI (nP l k%k) (wrap64 ((IntKind.u64.wrap (nC l k)).tmod 4611686018427387905))) 133)).heap.size G (fixK l k)):=
    Rd.of_own (World.ownsRow.alloc j.o _)
   have ab:=κ (okt_wf (okt_fixK l k) (by rw[fixK_len];omega));have ac:=κ ((fixK_len l k).symm);have ad:((fixK l k).length:Int)≤9223372036854775807:=by rw[fixK_len];omega
   by_cases hq:0<k∧0≤nP l k
   ·have S:=κ hq;obtain⟨H,ae⟩:=hq;have ao:=Int.emod_nonneg (nP l k) (b:=(k:Int)) (by omega);have ap:=Int.emod_lt_of_pos (nP l k) (b:=(k:Int)) (by omega);obtain⟨m,hm⟩: ∃m:Int,m=nP l k%k:=⟨_,rfl⟩;have HM:=κ hm
    go_wp2_with fail
    refine(rpath_n _ _ _ (fixK l k) _ _ ac.o s ab ad ⟨by omega,by omega⟩).mono ?_;rintro e w1 ⟨A1,c1,rfl,af,I⟩;have J:=κ (Blk.below' (Blk.fresh wr _ _) I);have f0:=χ (J.o.cell 0);have f1:=χ (J.o.cell 1);have z0:=J.o.thaw 0;have r:=(ψ.alloc τ _).trans (I.mono (by simp));have a:=d.trans (r.mono d.size);clear af I s;by_cases h3:3≤(pathF (fixK l k) 3 (nP l k%k)).length
    ·have ag:decide (3≤((pathF (fixK l k) 3 (nP l k%k)).length:Int))=true:=by simp;omega
     have n:Hid (nds (fixK l (k+1))=nds (fixK l k)++[ι (-1),ι (wrap64 ((IntKind.u64.wrap (nC l k)).tmod 4611686018427387905))]):=by
      show _=_;rw[fixK,nds_snoc,capE,fixP,if_pos S.o,if_pos h3]
     have E:Below wr.heap.size wr (w1.setCell (α wr.heap.size 0) (ι (-1))):=r.setCell τ _;have q:=d.trans (E.mono d.size);have i:=own_below j E;clear h3 a r j
     go_wp2_with (first
      |(at_builtin;refine wpList_app1 i q rfl _ _ _ rfl Y (.agg #[.int .i64 0,.int .i64 0]) 16 Tryz.underlying22 Z x y z rfl (by decide) rfl rfl (by simp[World.setCell]) [.int .i64 (-1),.int .i64 (wrap64 ((IntKind.u64.wrap (nC l k)).tmod 4611686018427387905))] rfl rfl (by simp[Value.oneCell']) (by unfold maxLen;omega) (by omega) τ (q).size (q).size ?_;intro K L w2 f h t))
     go_roundg g
     case measure=>omega
     case rel=>exact⟨k+1,K,L,by have:=C.o;omega,by go_num,rfl,by rw[n.o];exact f,h⟩
    ·have ag:decide (3≤((pathF (fixK l k) 3 (nP l k%k)).length:Int))=false:=by simp;omega
     have n:Hid (nds (fixK l (k+1))=nds (fixK l k)++[ι (nP l k%k),ι (wrap64 ((IntKind.u64.wrap (nC l k)).tmod 4611686018427387905))]):=by
      show _=_;rw[fixK,nds_snoc,capE,fixP,if_pos S.o,if_neg h3]
     have i:=own_below j r;clear h3 r j
     go_wp2_with (first
      |(at_builtin;refine wpList_app1 i a rfl _ _ _ rfl Y (.agg #[.int .i64 0,.int .i64 0]) 16 Tryz.underlying22 Z x y z rfl (by decide) rfl rfl (by simp[World.setCell]) [.int .i64 (nP l k%k),.int .i64 (wrap64 ((IntKind.u64.wrap (nC l k)).tmod 4611686018427387905))] rfl rfl (by simp[Value.oneCell']) (by unfold maxLen;omega) (by omega) τ (a).size (a).size ?_;intro K L w2 f h t))
     go_roundg g
     case measure=>omega
     case rel=>exact⟨k+1,K,L,by have:=C.o;omega,by go_num,rfl,by rw[n.o];exact f,h⟩
   ·have n:Hid (nds (fixK l (k+1))=nds (fixK l k)++[ι (-1),ι (wrap64 ((IntKind.u64.wrap (nC l k)).tmod 4611686018427387905))]):=by
     show _=_;rw[fixK,nds_snoc,capE,fixP,if_neg hq]
    have a:=d.alloc d.size (.cells (vI (-1) (wrap64 ((IntKind.u64.wrap (nC l k)).tmod 4611686018427387905))) 133);have i:Hid ((wr.alloc (.cells (vI (-1) (wrap64 ((IntKind.u64.wrap (nC l k)).tmod 4611686018427387905))) 133)).ownsRow w.heap.size 133 2 (.slice G k O) k (nds (fixK l k))):=World.ownsRow.alloc j.o _;clear j s;by_cases hq0:0<k
    ·have H:nP l k<0:=by omega
     have ae:decide (0≤nP l k)=false:=by simp;omega
     clear hq
     go_wp2_with (first
      |(at_builtin;refine wpList_app1 i a rfl _ _ _ rfl Y (.agg #[.int .i64 0,.int .i64 0]) 16 Tryz.underlying22 Z x y z rfl (by decide) rfl rfl (by simp[World.setCell]) [.int .i64 (-1),.int .i64 (wrap64 ((IntKind.u64.wrap (nC l k)).tmod 4611686018427387905))] rfl rfl (by simp[Value.oneCell']) (by unfold maxLen;omega) (by omega) τ (a).size (a).size ?_;intro K L w2 f h t))
     go_roundg g
     case measure=>omega
     case rel=>exact⟨k+1,K,L,by have:=C.o;omega,by go_num,rfl,by rw[n.o];exact f,h⟩
    ·have H:k=0:=by omega
     subst H;clear hq
     go_wp2_with (first
      |(at_builtin;refine wpList_app1 i a rfl _ _ _ rfl Y (.agg #[.int .i64 0,.int .i64 0]) 16 Tryz.underlying22 Z x y z rfl (by decide) rfl rfl (by simp[World.setCell]) [.int .i64 (-1),.int .i64 (wrap64 ((IntKind.u64.wrap (nC l 0)).tmod 4611686018427387905))] rfl rfl (by simp[Value.oneCell']) (by unfold maxLen;omega) (by omega) τ (a).size (a).size ?_;intro K L w2 f h t))
     go_roundg g
     case measure=>omega
     case rel=>exact⟨0+1,K,L,by have:=C.o;omega,by go_num,rfl,by rw[n.o];exact f,h⟩
  ·have T:gk=0:=by omega
   have U:Hid (k=min l.length 10):=by show _=_;omega
   by_cases h0:l.length=0
   ·have V:k=0:=by omega
    subst V;have v:Hid (fixF l=[(-1,1000)]):=by show _=_;rw[fixF,if_pos h0]
    have h1: ¬((0:Nat):Int)<l.length:=by omega
    have aq:(l.length:Int)≤0:=by omega
    clear h0 hlt
    go_wp2_with fail
    go_ret;have hb:=Blk.fresh wr 133 (vI (-1) 1000);exact madeNdsR_mk (xs:=[(-1,1000)]) v.o (own_one hb d.size) (d.alloc d.size _)
   ·have v:Hid (fixF l=fixK l k):=by show _=_;rw[fixF,if_neg h0,U.o]
    have V:((k:Int)==0)=false:=beq_eq_false_iff_ne.2 (by have:=U.o;omega);have W:=κ j.o
    have F:Hid (MadeNdsR (fixF l) w (.returned (.slice G k O)) wr):=by
     have e:=fixK_len l k;have:=madeNdsR_mk (ys:=fixF l) (xs:=fixK l k) (A:=G) (c:=O) (w':=wr) v.o (by rw[e];exact W.o) d;rwa[e]at this
    by_cases Q:k<l.length
    ·have t1:decide ((k:Int)<10)=false:=by simp;omega
     clear hlt h0 hk T
     go_wp2_with fail
     go_ret;exact F.o
    ·have t1:(l.length:Int)≤k:=by omega
     clear hlt h0 hk T
     go_wp2_with fail
     go_ret;exact F.o
end Fown
end Go.Proofs.YtcccdikhfgpamaaGreat
