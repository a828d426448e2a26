/- Texts side by side. -/
import Derived.Test.YtfbajlcljfjbkaaGreatUniam
set_option linter.unusedVariables false
set_option linter.unusedSimpArgs false
set_option maxRecDepth 100000
set_option maxHeartbeats 16000000
namespace Go.Proofs.YtfbajlcljfjbkaaGreat
open Kap Go.ChangeShapes Go.WideShapes Go.RowKit
namespace Fix
open Go.ChangeAt
def inB(x:Int):Bool:=decide (-9223372036854775808≤x∧x≤9223372036854775807)
def numV(x:Int):Int:=if inB x then x else 0
variable {a b n p x:Int}
theorem inB_t(h: -9223372036854775808≤x)(h':x≤9223372036854775807):inB x=true:=by
 unfold inB;simp[h,h']
theorem inB_f(h:x< -9223372036854775808∨9223372036854775807<x):inB x=false:=by
 unfold inB;simp;omega
theorem inB_of(h:inB x=true): -9223372036854775808≤x∧x≤9223372036854775807:=by
 unfold inB at h;simpa using h
theorem numV_t(h:inB x=true):numV x=x:=by unfold numV;simp[h]
theorem numV_f(h:inB x=false):numV x=0:=by unfold numV;simp[h]
def Told(x:Int)(w:Go.World)(e:Ending)(w':Go.World):Prop:=e= .returned (.tuple #[.int .i64 (numV x),.bool (inB x)])∧w=w'
def ToldB(b:Bool)(w:Go.World)(e:Ending)(w':Go.World):Prop:=e= .returned (.bool b)∧w=w'
theorem told_t{w:Go.World}{y:Int}(h: -9223372036854775808≤x)(h':x≤9223372036854775807)(hy:y=x):Told x w (.returned (.tuple #[.int .i64 y,.bool true])) w:=by
 have:=inB_t h h';subst hy;exact⟨by rw[numV_t this,this],rfl⟩
theorem told_f{w:Go.World}(h:x< -9223372036854775808∨9223372036854775807<x):Told x w (.returned (.tuple #[.int .i64 0,.bool false])) w:=by
 have:=inB_f h;exact⟨by rw[numV_f this,this],rfl⟩
theorem told_no{w:Go.World}(h:inB x=false):Told x w (.returned (.tuple #[.int .i64 0,.bool false])) w:=
 ⟨by rw[numV_f h,h],rfl⟩
theorem add_any(a b:Int)(w:Go.World)(ha: -9223372036854775808≤a)(ha':a≤9223372036854775807)(hb: -9223372036854775808≤b)(hb':b≤9223372036854775807):
  Calls Tryz.prog 110 #[.int .i64 a,.int .i64 b] w (Told (a+b) w):=by
 by_cases h1:0<b
 ·by_cases h2:9223372036854775807-b<a
  ·go_enter Tryz.func110,Tryz.ntmps110
   go_wp2
   go_ret2;exact told_f (by omega)
  ·go_enter Tryz.func110,Tryz.ntmps110
   go_wp2
   go_ret2;exact told_t (by omega) (by omega) rfl
 ·by_cases h3:b<0
  ·by_cases h2:a< -9223372036854775808-b
   ·go_enter Tryz.func110,Tryz.ntmps110
    go_wp2
    go_ret2;exact told_f (by omega)
   ·go_enter Tryz.func110,Tryz.ntmps110
    go_wp2
    go_ret2;exact told_t (by omega) (by omega) rfl
  ·obtain rfl:b=0:=by omega
   go_enter Tryz.func110,Tryz.ntmps110
   go_wp2
   go_ret2;exact told_t (by omega) (by omega) (by omega)
theorem wr64(h: -9223372036854775808≤x)(h':x≤9223372036854775807):wrap64 x=x:=by
 unfold wrap64;omega
theorem toldB_mk{p:Prop}[Decidable p]{b:Bool}{w:Go.World}(h:p↔b=true):ToldB b w (.returned (.bool (decide p))) w:=
 ⟨by congr 2;rw[Bool.eq_iff_iff];simpa using h,rfl⟩
theorem inB_iff:inB x=true↔(-9223372036854775808≤x∧x≤9223372036854775807):=by unfold inB;simp
theorem le_quo{q:Int}(hp:0<p):q≤n / p↔p*q≤n:=by
 rw[Int.le_ediv_iff_mul_le hp,Int.mul_comm]
theorem quo_bd(hp:0<p)(hn:0≤n):0≤n / p∧n / p≤n:=
 ⟨Int.ediv_nonneg hn (by omega),Int.ediv_le_self _ hn⟩
theorem tdiv_pos(hn:0≤n):Int.tdiv n p=n / p:=Int.tdiv_eq_ediv_of_nonneg hn
theorem tdiv_neg(hn:0≤n):Int.tdiv n p= -(n / (-p)):=by
 rw[←Int.neg_neg p,Int.tdiv_neg,tdiv_pos hn,Int.neg_neg]
theorem fits_pp(a b:Int)(w:Go.World)(ha:0<a)(ha':a≤9223372036854775807)(hb:0<b)(hb':b≤9223372036854775807):
  Calls Tryz.prog 132 #[.int .i64 a,.int .i64 b] w (ToldB (inB (a*b)) w):=by
 have h1:(a==0)=false:=by simp;omega
 have h2:(b==0)=false:=by simp;omega
 go_enter Tryz.func132,Tryz.ntmps132
 go_wp2
 go_ret;refine toldB_mk ?_;have:=Int.mul_pos ha hb;rw[inB_iff,le_quo hb,Int.mul_comm];omega
theorem fits_pn(a b:Int)(w:Go.World)(ha:0<a)(ha':a≤9223372036854775807)(hb:b<0)(hb': -9223372036854775808≤b):
  Calls Tryz.prog 132 #[.int .i64 a,.int .i64 b] w (ToldB (inB (a*b)) w):=by
 have h1:(a==0)=false:=by simp;omega
 have h2:(b==0)=false:=by simp;omega
 go_enter Tryz.func132,Tryz.ntmps132
 go_wp2
 go_ret;refine toldB_mk ?_;have hq:=quo_bd ha (show(0:Int)≤9223372036854775808 by omega);have hl:=le_quo (q:= -b) (n:=9223372036854775808) ha;have hm:=Int.mul_pos ha (show 0< -b by omega);rw[Int.mul_neg]at hl hm;rw[tdiv_pos (by omega),wr64 (by omega) (by omega),inB_iff];omega
theorem fits_np(a b:Int)(w:Go.World)(ha:a<0)(ha': -9223372036854775808≤a)(hb:0<b)(hb':b≤9223372036854775807):
  Calls Tryz.prog 132 #[.int .i64 a,.int .i64 b] w (ToldB (inB (a*b)) w):=by
 have h1:(a==0)=false:=by simp;omega
 have h2:(b==0)=false:=by simp;omega
 go_enter Tryz.func132,Tryz.ntmps132
 go_wp2
 go_ret;refine toldB_mk ?_;have hq:=quo_bd hb (show(0:Int)≤9223372036854775808 by omega);have hl:=le_quo (q:= -a) (n:=9223372036854775808) hb;have hm:=Int.mul_pos hb (show 0< -a by omega);rw[Int.mul_neg,Int.mul_comm b a]at hl hm;rw[tdiv_pos (by omega),wr64 (by omega) (by omega),inB_iff];omega
theorem fits_nn(a b:Int)(w:Go.World)(ha:a<0)(ha': -9223372036854775808≤a)(hb:b<0)(hb': -9223372036854775808≤b):
  Calls Tryz.prog 132 #[.int .i64 a,.int .i64 b] w (ToldB (inB (a*b)) w):=by
 have h1:(a==0)=false:=by simp;omega
 have h2:(b==0)=false:=by simp;omega
 go_enter Tryz.func132,Tryz.ntmps132
 go_wp2
 go_ret;refine toldB_mk ?_;have hq:=quo_bd (show 0< -b by omega) (show(0:Int)≤9223372036854775807 by omega);have hl:=le_quo (q:= -a) (n:=9223372036854775807) (show 0< -b by omega);have hm:=Int.mul_pos (show 0< -b by omega) (show 0< -a by omega);rw[Int.neg_mul_neg,Int.mul_comm b a]at hl hm;rw[tdiv_neg (by omega),wr64 (by omega) (by omega),inB_iff];omega
theorem fits_z1(b:Int)(w:Go.World):
  Calls Tryz.prog 132 #[.int .i64 0,.int .i64 b] w (ToldB (inB (0*b)) w):=by
 go_enter Tryz.func132,Tryz.ntmps132
 go_wp2
 go_ret;exact⟨by rw[Int.zero_mul];rfl,rfl⟩
theorem fits_z2(a:Int)(w:Go.World)(h1:(a==0)=false):
  Calls Tryz.prog 132 #[.int .i64 a,.int .i64 0] w (ToldB (inB (a*0)) w):=by
 go_enter Tryz.func132,Tryz.ntmps132
 go_wp2
 go_ret;exact⟨by rw[Int.mul_zero];rfl,rfl⟩
theorem fits_any(a b:Int)(w:Go.World)(ha: -9223372036854775808≤a)(ha':a≤9223372036854775807)(hb: -9223372036854775808≤b)(hb':b≤9223372036854775807):
  Calls Tryz.prog 132 #[.int .i64 a,.int .i64 b] w (ToldB (inB (a*b)) w):=by
 by_cases h:a=0
 ·subst h;exact fits_z1 b w
 by_cases h':b=0
 ·subst h';exact fits_z2 a w (by simpa using h)
 by_cases h1:0<a
 ·by_cases h2:0<b
  ·exact fits_pp a b w h1 ha' h2 hb'
  ·exact fits_pn a b w h1 ha' (by omega) hb
 ·by_cases h2:0<b
  ·exact fits_np a b w (by omega) ha h2 hb'
  ·exact fits_nn a b w (by omega) ha (by omega) hb
theorem mul_any(a b:Int)(w:Go.World)(ha: -9223372036854775808≤a)(ha':a≤9223372036854775807)(hb: -9223372036854775808≤b)(hb':b≤9223372036854775807):
  Calls Tryz.prog 122 #[.int .i64 a,.int .i64 b] w (Told (a*b) w):=by
 by_cases h:inB (a*b)=true
 ·obtain⟨h1,h2⟩:=inB_of h
  go_enter Tryz.func122,Tryz.ntmps122
  go_wp2_with (go_at_call 132;refine(fits_any a b _ ha ha' hb hb').mono ?_;rintro e w' ⟨rfl,rfl⟩)
  go_ret2;exact told_t h1 h2 rfl
 ·have h:inB (a*b)=false:=by simpa using h
  go_enter Tryz.func122,Tryz.ntmps122
  go_wp2_with (go_at_call 132;refine(fits_any a b _ ha ha' hb hb').mono ?_;rintro e w' ⟨rfl,rfl⟩)
  go_ret2;exact told_no h
def ToldU(x:Int)(w:Go.World)(e:Ending)(w':Go.World):Prop:=e= .returned (.int .u64 x)∧w=w'
def ToldUU(x y:Int)(w:Go.World)(e:Ending)(w':Go.World):Prop:=e= .returned (.tuple #[.int .u64 x,.int .u64 y])∧w=w'
theorem u64_eq{w:Go.World}(h:a=b):ToldU b w (.returned (.int .u64 a)) w:=⟨by rw[h],rfl⟩
theorem size_any(a:Int)(w:Go.World)(ha: -9223372036854775808≤a)(ha':a≤9223372036854775807):
  Calls Tryz.prog 135 #[.int .i64 a] w (ToldU (a.natAbs:Int) w):=by
 by_cases h:a<0
 ·go_enter Tryz.func135,Tryz.ntmps135
  go_wp2
  go_ret;exact u64_eq (by omega)
 ·go_enter Tryz.func135,Tryz.ntmps135
  go_wp2
  go_ret;exact u64_eq (by omega)
theorem wide_hi(al ah bl bh:Int)(p:Int)
  (hp:p=ah*bh*18446744073709551616+(ah*bl+al*bh)*4294967296+al*bl):
  ah*bh+(ah*bl+al*bl / 4294967296) / 4294967296+(al*bh+(ah*bl+al*bl / 4294967296)%4294967296) / 4294967296=p / 18446744073709551616∧
  (al*bh+(ah*bl+al*bl / 4294967296))%4294967296*4294967296+al*bl%4294967296=p%18446744073709551616:=by
 generalize al*bl=q1 at *;generalize ah*bl=q2 at *;generalize al*bh=q3 at *;generalize ah*bh=q4 at *;omega
theorem wide_core(x y al ah bl bh:Int)(w:Go.World)(h1:x%4294967296=al)(h2:x / 4294967296=ah)(h3:y%4294967296=bl)(h4:y / 4294967296=bh)
  (hx:0≤x)(hx':x≤18446744073709551615)(hy:0≤y)(hy':y≤18446744073709551615)
  (p1:0≤al*bl)(p1':al*bl≤18446744065119617025)(p2:0≤ah*bl)(p2':ah*bl≤18446744065119617025)
  (p3:0≤al*bh)(p3':al*bh≤18446744065119617025)(p4:0≤ah*bh)(p4':ah*bh≤18446744065119617025):
  Calls Tryz.prog 134 #[.int .u64 x,.int .u64 y] w (ToldUU (ah*bh+(ah*bl+al*bl / 4294967296) / 4294967296+(al*bh+(ah*bl+al*bl / 4294967296)%4294967296) / 4294967296) ((al*bh+(ah*bl+al*bl / 4294967296))%4294967296*4294967296+al*bl%4294967296) w):=by
 go_enter Tryz.func134,Tryz.ntmps134
 go_wp2
 exact bodyPost_ret (v:= .tuple #[.int .u64 (ah*bh+(ah*bl+al*bl / 4294967296) / 4294967296+(al*bh+(ah*bl+al*bl / 4294967296)%4294967296) / 4294967296),.int .u64 ((al*bh+(ah*bl+al*bl / 4294967296))%4294967296*4294967296+al*bl%4294967296)]) (by simp[results,Tryz.results134,go_sem]) rfl ⟨rfl,rfl⟩
theorem prod_bd(ha:0≤a)(ha':a≤4294967295)(hb:0≤b)(hb':b≤4294967295):0≤a*b∧a*b≤18446744065119617025:=
 ⟨Int.mul_nonneg ha hb,Int.le_trans (Int.mul_le_mul ha' hb' hb (by omega)) (by omega)⟩
theorem wide_prod(x y al ah bl bh:Int)(h1:x=ah*4294967296+al)(h2:y=bh*4294967296+bl):
  x*y=ah*bh*18446744073709551616+(ah*bl+al*bh)*4294967296+al*bl:=by
 subst h1 h2;simp only[Int.add_mul,Int.mul_add]
 have e1:ah*4294967296*(bh*4294967296)=ah*bh*18446744073709551616:=by
  rw[Int.mul_assoc,Int.mul_left_comm 4294967296 bh,←Int.mul_assoc];rfl
 have e2:ah*4294967296*bl=ah*bl*4294967296:=by
  rw[Int.mul_assoc,Int.mul_comm 4294967296 bl,←Int.mul_assoc]
 have e3:al*(bh*4294967296)=al*bh*4294967296:=by rw[←Int.mul_assoc]
 omega
theorem wide_any(x y:Int)(w:Go.World)
  (hx:0≤x)(hx':x≤18446744073709551615)(hy:0≤y)(hy':y≤18446744073709551615):
  Calls Tryz.prog 134 #[.int .u64 x,.int .u64 y] w (ToldUU (x*y / 18446744073709551616) (x*y%18446744073709551616) w):=by
 have a1:0≤x%4294967296∧x%4294967296≤4294967295:=by omega
 have a2:0≤x / 4294967296∧x / 4294967296≤4294967295:=by omega
 have a3:0≤y%4294967296∧y%4294967296≤4294967295:=by omega
 have a4:0≤y / 4294967296∧y / 4294967296≤4294967295:=by omega
 have hp:=wide_prod x y (x%4294967296) (x / 4294967296) (y%4294967296) (y / 4294967296) (by omega) (by omega);have hh:=wide_hi (x%4294967296) (x / 4294967296) (y%4294967296) (y / 4294967296) (x*y) hp;have p1:=prod_bd a1.1 a1.2 a3.1 a3.2;have p2:=prod_bd a2.1 a2.2 a3.1 a3.2;have p3:=prod_bd a1.1 a1.2 a4.1 a4.2;have p4:=prod_bd a2.1 a2.2 a4.1 a4.2;rw[←hh.1,←hh.2];exact wide_core x y _ _ _ _ w rfl rfl rfl rfl hx hx' hy hy' p1.1 p1.2 p2.1 p2.2 p3.1 p3.2 p4.1 p4.2
theorem abs_mul(a b:Int):((a.natAbs:Int)*(b.natAbs:Int))=((a*b).natAbs:Int):=by
 rw[Int.natAbs_mul];simp
theorem sgn_same(h:a<0↔b<0):0≤a*b:=by
 by_cases ha:a<0
 ·have:=Int.mul_pos (show 0< -a by omega) (show 0< -b by omega);rw[Int.neg_mul_neg]at this;omega
 ·exact Int.mul_nonneg (by omega) (by omega)
theorem sgn_other(h: ¬(a<0↔b<0)):a*b≤0:=by
 by_cases ha:a<0
 ·have:=Int.mul_nonneg (show 0≤ -a by omega) (show 0≤b by omega);rw[Int.neg_mul]at this;omega
 ·have:=Int.mul_nonneg (show 0≤a by omega) (show 0≤ -b by omega);rw[Int.mul_neg]at this;omega
theorem rmul_small(a b m:Int)(w:Go.World)(ha: -9223372036854775808≤a)(ha':a≤9223372036854775807)(hb: -9223372036854775808≤b)(hb':b≤9223372036854775807)
  (hm:((a*b).natAbs:Int)=m)(hm1:0≤m)(hm2:m≤18446744073709551615)
  (HW: ∀w,Calls Tryz.prog 134 #[.int .u64 (a.natAbs:Int),.int .u64 (b.natAbs:Int)] w (ToldUU 0 m w)):
  Calls Tryz.prog 130 #[.int .i64 a,.int .i64 b] w (Told (a*b) w):=by
 by_cases hs:a<0↔b<0
 ·have hd:(decide (a<0)==decide (b<0))=true:=by simp[hs]
  have hp:=sgn_same hs;have H:RowKit.Hid (a*b=m):=by show a*b=m;omega
  clear hm hp hs;by_cases h2:9223372036854775807<m
  ·go_enter Tryz.func130,Tryz.ntmps130
   go_wp2_with (first|(go_at_call 135;refine(size_any _ _ (by omega) (by omega)).mono ?_;rintro e w' ⟨rfl,rfl⟩)|(go_at_call 134;refine(HW _).mono ?_;rintro e w' ⟨rfl,rfl⟩))
   go_ret2;exact told_f (by have:=H.out;omega)
  ·go_enter Tryz.func130,Tryz.ntmps130
   go_wp2_with (first|(go_at_call 135;refine(size_any _ _ (by omega) (by omega)).mono ?_;rintro e w' ⟨rfl,rfl⟩)|(go_at_call 134;refine(HW _).mono ?_;rintro e w' ⟨rfl,rfl⟩))
   go_ret2;exact told_t (by have:=H.out;omega) (by have:=H.out;omega) (by have:=H.out;omega)
 ·have hd:(decide (a<0)==decide (b<0))=false:=by simpa using hs
  have hp:=sgn_other hs;have H:RowKit.Hid (a*b= -m):=by show a*b= -m;omega
  clear hm hp hs;by_cases h2:9223372036854775808<m
  ·go_enter Tryz.func130,Tryz.ntmps130
   go_wp2_with (first|(go_at_call 135;refine(size_any _ _ (by omega) (by omega)).mono ?_;rintro e w' ⟨rfl,rfl⟩)|(go_at_call 134;refine(HW _).mono ?_;rintro e w' ⟨rfl,rfl⟩))
   go_ret2;exact told_f (by have:=H.out;omega)
  ·by_cases h4:m=0
   ·subst h4
    go_enter Tryz.func130,Tryz.ntmps130
    go_wp2_with (first|(go_at_call 135;refine(size_any _ _ (by omega) (by omega)).mono ?_;rintro e w' ⟨rfl,rfl⟩)|(go_at_call 134;refine(HW _).mono ?_;rintro e w' ⟨rfl,rfl⟩))
    go_ret2;exact told_t (by have:=H.out;omega) (by have:=H.out;omega) (by have:=H.out;omega)
   ·have h5:0<m:=by omega
    have h6:(m==0)=false:=by simp;omega
    clear h4
    go_enter Tryz.func130,Tryz.ntmps130
    go_wp2_with (first|(go_at_call 135;refine(size_any _ _ (by omega) (by omega)).mono ?_;rintro e w' ⟨rfl,rfl⟩)|(go_at_call 134;refine(HW _).mono ?_;rintro e w' ⟨rfl,rfl⟩))
    go_ret2;exact told_t (by have:=H.out;omega) (by have:=H.out;omega) (by have:=H.out;omega)
theorem rmul_any(a b:Int)(w:Go.World)(ha: -9223372036854775808≤a)(ha':a≤9223372036854775807)(hb: -9223372036854775808≤b)(hb':b≤9223372036854775807):
  Calls Tryz.prog 130 #[.int .i64 a,.int .i64 b] w (Told (a*b) w):=by
 have HW:=fun w=>wide_any (a.natAbs:Int) (b.natAbs:Int) w (by omega) (by omega) (by omega) (by omega)
 rw[abs_mul]at HW;generalize hm:((a*b).natAbs:Int)=m at HW;have hm0:0≤m:=by omega
 by_cases hbig:18446744073709551616≤m
 ·have n1:((m / 18446744073709551616:Int)==0)=false:=by simp;omega
  have n2:((m / 18446744073709551616:Int) != 0)=true:=by simp;omega
  have H:=κ hm;clear hm
  go_enter Tryz.func130,Tryz.ntmps130
  go_wp2_with (first|(go_at_call 135;refine(size_any _ _ (by omega) (by omega)).mono ?_;rintro e w' ⟨rfl,rfl⟩)|(go_at_call 134;refine(HW _).mono ?_;rintro e w' ⟨rfl,rfl⟩))
  go_ret2;exact told_f (by have:=H.out;omega)
 ·have n0:m / 18446744073709551616=0:=by omega
  have n1:m%18446744073709551616=m:=by omega
  simp only[n0,n1]at HW;exact rmul_small a b m w ha ha' hb hb' hm hm0 (by omega) HW
def noB(a b:Int):Bool:=decide (0≤a)&&decide (0≤b)&&inB (a*b)
def noV(a b:Int):Int:=if noB a b then a*b else 0
def ToldN(a b:Int)(w:Go.World)(e:Ending)(w':Go.World):Prop:=e= .returned (.tuple #[.int .i64 (noV a b),.bool (noB a b)])∧w=w'
theorem noB_in(h:0≤a)(h':0≤b):noB a b=inB (a*b):=by unfold noB;simp[h,h']
theorem noV_in(h:0≤a)(h':0≤b):noV a b=numV (a*b):=by unfold noV numV;rw[noB_in h h']
theorem toldN_f{w:Go.World}(h:a<0∨b<0):ToldN a b w (.returned (.tuple #[.int .i64 0,.bool false])) w:=by
 have:noB a b=false:=by unfold noB;rcases h with h|h<;>simp<;>omega
 exact⟨by unfold noV;rw[this];rfl,rfl⟩
theorem toldN_in{w:Go.World}(h:0≤a)(h':0≤b):ToldN a b w (.returned (.tuple #[.int .i64 (numV (a*b)),.bool (inB (a*b))])) w:=
 ⟨by rw[noV_in h h',noB_in h h'],rfl⟩
theorem not_any(a b:Int)(w:Go.World)(ha: -9223372036854775808≤a)(ha':a≤9223372036854775807)(hb: -9223372036854775808≤b)(hb':b≤9223372036854775807):
  Calls Tryz.prog 104 #[.int .i64 a,.int .i64 b] w (ToldN a b w):=by
 by_cases h1:a<0
 ·go_enter Tryz.func104,Tryz.ntmps104
  go_wp2
  go_ret2;exact toldN_f (Or.inl h1)
 ·by_cases h2:b<0
  ·go_enter Tryz.func104,Tryz.ntmps104
   go_wp2
   go_ret2;exact toldN_f (Or.inr h2)
  ·go_enter Tryz.func104,Tryz.ntmps104
   go_wp2_with (first|(go_at_call 122;refine(mul_any _ _ _ ha ha' hb hb').mono ?_;rintro e w' ⟨rfl,rfl⟩))
   go_ret2;exact toldN_in (by omega) (by omega)
theorem rnot_any(a b:Int)(w:Go.World)(ha: -9223372036854775808≤a)(ha':a≤9223372036854775807)(hb: -9223372036854775808≤b)(hb':b≤9223372036854775807):
  Calls Tryz.prog 117 #[.int .i64 a,.int .i64 b] w (ToldN a b w):=by
 by_cases h1:a<0
 ·go_enter Tryz.func117,Tryz.ntmps117
  go_wp2
  go_ret2;exact toldN_f (Or.inl h1)
 ·by_cases h2:b<0
  ·go_enter Tryz.func117,Tryz.ntmps117
   go_wp2
   go_ret2;exact toldN_f (Or.inr h2)
  ·go_enter Tryz.func117,Tryz.ntmps117
   go_wp2_with (first|(go_at_call 130;refine(rmul_any _ _ _ ha ha' hb hb').mono ?_;rintro e w' ⟨rfl,rfl⟩))
   go_ret2;exact toldN_in (by omega) (by omega)
end Fix
namespace Cfg
open Mem Tre Ref3 Law3 Fix3 Opn Bnd Flo
variable {a b n:Int} {l sy:List (Int×Int×Int×Nat)} {ac:List Int} {B i:Nat} {A:Option Addr} {w:World}
theorem run_store_float{P:Program}{a:Addr}{m:Mode}(k:FloatKind)(n:Nat):(store a (.float k n) m).run P w=stored P w a (.float k n) m:=run_store P w a _ m rfl
def sP(l:List (Int×Int×Int×Nat))(i:Nat):Int:=(l.getD i (0,0,0,0)).1
def sQ(l:List (Int×Int×Int×Nat))(i:Nat):Int:=(l.getD i (0,0,0,0)).2.1
def sW(l:List (Int×Int×Int×Nat))(i:Nat):Int:=(l.getD i (0,0,0,0)).2.2.1
def sB(l:List (Int×Int×Int×Nat))(i:Nat):Nat:=(l.getD i (0,0,0,0)).2.2.2
def syV(p:Int×Int×Int×Nat):List Value:=[.int .i64 p.1,.int .i64 p.2.1,.int .i64 p.2.2.1,.float .f64 p.2.2.2]
def btV(p:Int×Int×Int×Nat):List Value:=[.int .i64 p.1,.int .i64 p.2.1,.int .i64 p.2.2.1,.int .u64 (p.2.2.2:Int)]
def smbs(l:List (Int×Int×Int×Nat)):List Value:=l.flatMap syV
def btbs(l:List (Int×Int×Int×Nat)):List Value:=l.flatMap btV
theorem smbs_len(l:List (Int×Int×Int×Nat)):(smbs l).length=l.length*4:=by
 induction l with
 |nil=>rfl
 |cons p l ih=>simp[smbs,syV]at ih ⊢;omega
theorem btbs_len(l:List (Int×Int×Int×Nat)):(btbs l).length=l.length*4:=by
 induction l with
 |nil=>rfl
 |cons p l ih=>simp[btbs,btV]at ih ⊢;omega
theorem smbs_get(l:List (Int×Int×Int×Nat))(i:Nat)(hi:i<l.length):
  (smbs l)[i*4]? =some (.int .i64 (sP l i))∧(smbs l)[i*4+1]? =some (.int .i64 (sQ l i))∧(smbs l)[i*4+2]? =some (.int .i64 (sW l i))∧(smbs l)[i*4+3]? =some (.float .f64 (sB l i)):=by
 induction l generalizing i with
 |nil=>simp at hi
 |cons p l ih=>
  cases i with
  |zero=>simp[smbs,syV,sP,sQ,sW,sB]
  |succ i=>
   have:=ih i (by simpa using hi);rw[show(i+1)*4=i*4+4 by omega,show i*4+4+1=(i*4+1)+4 by omega,show i*4+4+2=(i*4+2)+4 by omega,show i*4+4+3=(i*4+3)+4 by omega];simpa[smbs,syV,sP,sQ,sW,sB] using this
theorem btbs_get(l:List (Int×Int×Int×Nat))(i:Nat)(hi:i<l.length):
  (btbs l)[i*4]? =some (.int .i64 (sP l i))∧(btbs l)[i*4+1]? =some (.int .i64 (sQ l i))∧(btbs l)[i*4+2]? =some (.int .i64 (sW l i))∧(btbs l)[i*4+3]? =some (.int .u64 (sB l i:Int)):=by
 induction l generalizing i with
 |nil=>simp at hi
 |cons p l ih=>
  cases i with
  |zero=>simp[btbs,btV,sP,sQ,sW,sB]
  |succ i=>
   have:=ih i (by simpa using hi);rw[show(i+1)*4=i*4+4 by omega,show i*4+4+1=(i*4+1)+4 by omega,show i*4+4+2=(i*4+2)+4 by omega,show i*4+4+3=(i*4+3)+4 by omega];simpa[btbs,btV,sP,sQ,sW,sB] using this
def Smb(w:World)(B:Nat)(A:Option Addr)(l:List (Int×Int×Int×Nat)):Prop:=Rd w B A (smbs l)
def Btb(w:World)(B:Nat)(A:Option Addr)(l:List (Int×Int×Int×Nat)):Prop:=Rd w B A (btbs l)
theorem Smb.at(h:Smb w B A l){i:Nat}(hi:i<l.length):
  ∃b o,A=some ⟨b,o,none⟩∧b<B∧ ∀j,j<l.length→w.cell? ⟨b,o+j*4,none⟩=some (.int .i64 (sP l j))∧w.cell? ⟨b,o+j*4+1,none⟩=some (.int .i64 (sQ l j))∧w.cell? ⟨b,o+j*4+2,none⟩=some (.int .i64 (sW l j))∧w.cell? ⟨b,o+j*4+3,none⟩=some (.float .f64 (sB l j)):=by
 obtain⟨b,o,hA,hb,hc⟩:=Rd.at h (by intro e;have:=smbs_len l;rw[e]at this;simp at this;omega);refine⟨b,o,hA,hb,fun j hj=>?_⟩;obtain⟨g0,g1,g2,g3⟩:=smbs_get l j hj;exact⟨hc _ _ g0,by rw[Nat.add_assoc];exact hc _ _ g1,by rw[Nat.add_assoc];exact hc _ _ g2,by rw[Nat.add_assoc];exact hc _ _ g3⟩
theorem Btb.at(h:Btb w B A l){i:Nat}(hi:i<l.length):
  ∃b o,A=some ⟨b,o,none⟩∧b<B∧ ∀j,j<l.length→w.cell? ⟨b,o+j*4,none⟩=some (.int .i64 (sP l j))∧w.cell? ⟨b,o+j*4+1,none⟩=some (.int .i64 (sQ l j))∧w.cell? ⟨b,o+j*4+2,none⟩=some (.int .i64 (sW l j))∧w.cell? ⟨b,o+j*4+3,none⟩=some (.int .u64 (sB l j:Int)):=by
 obtain⟨b,o,hA,hb,hc⟩:=Rd.at h (by intro e;have:=btbs_len l;rw[e]at this;simp at this;omega);refine⟨b,o,hA,hb,fun j hj=>?_⟩;obtain⟨g0,g1,g2,g3⟩:=btbs_get l j hj;exact⟨hc _ _ g0,by rw[Nat.add_assoc];exact hc _ _ g1,by rw[Nat.add_assoc];exact hc _ _ g2,by rw[Nat.add_assoc];exact hc _ _ g3⟩
def WfS(l:List (Int×Int×Int×Nat)):Prop:= ∀i,i<l.length→inI (sP l i)∧inI (sQ l i)∧inI (sW l i)∧sB l i<18446744073709551616
theorem smbs_snoc(l:List (Int×Int×Int×Nat))(p:Int×Int×Int×Nat):smbs (l++[p])=smbs l++[.int .i64 p.1,.int .i64 p.2.1,.int .i64 p.2.2.1,.float .f64 p.2.2.2]:=by simp[smbs,syV]
theorem takeS_snoc{k:Nat}(h:k<l.length):l.take (k+1)=l.take k++[(sP l k,sQ l k,sW l k,sB l k)]:=by
 have e:l[k]=(sP l k,sQ l k,sW l k,sB l k):=by simp[sP,sQ,sW,sB,h]
 rw[List.take_succ_eq_append_getElem h,e]
def btwB(a n b:Int):Bool:=decide (a≤n)&&decide (n≤b)
def symB(p q wo:Int)(b:Nat):Bool:=btwB 1 p 1099511627776&&btwB 1 q 1099511627776&&decide (0≤wo)&&rightB b
def sizB(sh wi ra ta:Int):Bool:=btwB 1 sh 4&&btwB 0 wi 16&&btwB 1 ra 1000&&btwB 1 ta 64
def accB(n:Nat)(ac:List Int):Bool:=decide (∀i,i<ac.length→inR n (gI ac i)=true)
def tabB(sy:List (Int×Int×Int×Nat)):Bool:=decide (∀i,i<sy.length→symB (sP sy i) (sQ sy i) (sW sy i) (sB sy i)=true)
def cfgF(sh wi ra ta:Int)(nd:List (Int×Int))(ac:List Int)(sy:List (Int×Int×Int×Nat)):Int:=
 if sizB sh wi ra ta=false then 1
 else if ¬(chk nd).1=0 then (chk nd).1
 else if ac.length=0∨32<ac.length then 3
 else if accB nd.length ac=false then 18
 else if sy.length=0∨16<sy.length then 4
 else if tabB sy=false then 1 else 0
theorem btw_t(h:a≤n)(h':n≤b):btwB a n b=true:=by simp[btwB,h,h']
theorem btw_l(h:n<a):btwB a n b=false:=by simp[btwB];omega
theorem btw_g(h:b<n):btwB a n b=false:=by simp[btwB];omega
theorem accB_f{n:Nat}(h:i<ac.length)(h':inR n (gI ac i)=false):accB n ac=false:=by
 unfold accB;simp only[decide_eq_false_iff_not];intro e;rw[e i h]at h';exact absurd h' (by decide)
theorem accB_t{n:Nat}(h: ∀i,i<ac.length→inR n (gI ac i)=true):accB n ac=true:=by
 unfold accB;simpa using h
theorem tabB_f(h:i<sy.length)(h':symB (sP sy i) (sQ sy i) (sW sy i) (sB sy i)=false):tabB sy=false:=by
 unfold tabB;simp only[decide_eq_false_iff_not];intro e;rw[e i h]at h';exact absurd h' (by decide)
theorem tabB_t(h: ∀i,i<sy.length→symB (sP sy i) (sQ sy i) (sW sy i) (sB sy i)=true):tabB sy=true:=by
 unfold tabB;simpa using h
section
variable {sh wi ra ta:Int} {nd:List (Int×Int)} {ac:List Int} {sy:List (Int×Int×Int×Nat)}
theorem cfgF_1(h:sizB sh wi ra ta=false):cfgF sh wi ra ta nd ac sy=1:=by unfold cfgF;rw[if_pos h]
theorem cfgF_2(h:sizB sh wi ra ta=true)(h2: ¬(chk nd).1=0):cfgF sh wi ra ta nd ac sy=(chk nd).1:=by
 unfold cfgF;rw[if_neg (by rw[h];decide),if_pos h2]
theorem cfgF_3(h:sizB sh wi ra ta=true)(h2:(chk nd).1=0)(h3:ac.length=0∨32<ac.length):cfgF sh wi ra ta nd ac sy=3:=by
 unfold cfgF;rw[if_neg (by rw[h];decide),if_neg (by simp[h2]),if_pos h3]
theorem cfgF_4(h:sizB sh wi ra ta=true)(h2:(chk nd).1=0)(h3: ¬(ac.length=0∨32<ac.length))(h4:accB nd.length ac=false):cfgF sh wi ra ta nd ac sy=18:=by
 unfold cfgF;rw[if_neg (by rw[h];decide),if_neg (by simp[h2]),if_neg h3,if_pos h4]
theorem cfgF_5(h:sizB sh wi ra ta=true)(h2:(chk nd).1=0)(h3: ¬(ac.length=0∨32<ac.length))(h4:accB nd.length ac=true)(h5:sy.length=0∨16<sy.length):cfgF sh wi ra ta nd ac sy=4:=by
 unfold cfgF;rw[if_neg (by rw[h];decide),if_neg (by simp[h2]),if_neg h3,if_neg (by rw[h4];decide),if_pos h5]
theorem cfgF_6(h:sizB sh wi ra ta=true)(h2:(chk nd).1=0)(h3: ¬(ac.length=0∨32<ac.length))(h4:accB nd.length ac=true)(h5: ¬(sy.length=0∨16<sy.length))(h6:tabB sy=false):cfgF sh wi ra ta nd ac sy=1:=by
 unfold cfgF;rw[if_neg (by rw[h];decide),if_neg (by simp[h2]),if_neg h3,if_neg (by rw[h4];decide),if_neg h5,if_pos h6]
theorem cfgF_7(h:sizB sh wi ra ta=true)(h2:(chk nd).1=0)(h3: ¬(ac.length=0∨32<ac.length))(h4:accB nd.length ac=true)(h5: ¬(sy.length=0∨16<sy.length))(h6:tabB sy=true):cfgF sh wi ra ta nd ac sy=0:=by
 unfold cfgF;rw[if_neg (by rw[h];decide),if_neg (by simp[h2]),if_neg h3,if_neg (by rw[h4];decide),if_neg h5,if_neg (by rw[h6];decide)]
end
def lokF(ac:List Int)(sy:List (Int×Int×Int×Nat))(a s p q n t:Int):Int×Int:=
 if p<1∨q<1∨n<0∨t<0 then (1,0)
 else if inR ac.length a=false then (3,0)
 else if inR sy.length s=false then (4,0)
 else if sQ sy s.toNat<q then (5,0)
 else if ¬Fix.inB (p*q)=true then (6,0)
 else if sW sy s.toNat<p*q then (7,0)
 else if witB (sP sy s.toNat) p (sB sy s.toNat)=false then (8,0)
 else (0,p*q)
def shaF(sh:Int)(n:Nat)(a:Int):Int:=if sh<1∨inR n a=false then-1 else a%sh
end Cfg
end Go.Proofs.YtfbajlcljfjbkaaGreat
