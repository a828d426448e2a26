/- Texts side by side. -/
import Derived.Test.YtcccdikhfgpamaaGreatUfbk
set_option linter.unusedVariables false
set_option linter.unusedSimpArgs false
set_option maxRecDepth 100000
set_option maxHeartbeats 16000000
namespace Go.Proofs.YtcccdikhfgpamaaGreat
open Kap Abv Go.ChangeShapes Go.WideShapes Go.ChangeAt Go.RowKit Mem Tre Ref3 Law3 Fix3 Opn Bnd Flo Cfg
namespace Rul1
attribute [local go_sem] run_store_float
def MadeX(x:Int)(w:World)(e:Ending)(w':World):Prop:=e= .returned (.int .i64 x)∧Below w.heap.size w w'
theorem madeX_mk{x y:Int}{w w':World}(h:x=y)(hb:Below w.heap.size w w'):MadeX x w (.returned (.int .i64 y)) w':=by subst h;exact⟨rfl,hb⟩
theorem below_step{a b c:World}(h:Below a.heap.size a b)(k:Below b.heap.size b c):Below a.heap.size a c:=h.trans (k.mono h.size)
theorem btwI_any(a n b:Int)(w:World):Calls Tryz.prog 143 #[.int .i64 a,.int .i64 n,.int .i64 b] w (ToldB (btwB a n b) w):=by
 by_cases h0:a≤n
 ·by_cases h1:n≤b
  ·have e:=κ (btw_t h0 h1)
   go_enter Tryz.func143,Tryz.ntmps143
   go_wp2
   go_ret;exact⟨by rw[e.o];rfl,rfl⟩
  ·have e:=κ (btw_g (a:=a) (n:=n) (b:=b) (by omega))
   go_enter Tryz.func143,Tryz.ntmps143
   go_wp2
   go_ret;exact⟨by rw[e.o];rfl,rfl⟩
 ·have e:=κ (btw_l (a:=a) (n:=n) (b:=b) (by omega))
  go_enter Tryz.func143,Tryz.ntmps143
  go_wp2
  go_ret;exact⟨by rw[e.o];rfl,rfl⟩
theorem btwL_any(a n b:Int)(w:World):Calls Tryz.prog 146 #[.int .i64 a,.int .i64 n,.int .i64 b] w (ToldB (btwB a n b) w):=by
 by_cases h0:a≤n
 ·by_cases h1:n≤b
  ·have e:=κ (btw_t h0 h1)
   go_enter Tryz.func146,Tryz.ntmps146
   go_wp2
   go_ret;exact⟨by rw[e.o];rfl,rfl⟩
  ·have e:=κ (btw_g (a:=a) (n:=n) (b:=b) (by omega))
   go_enter Tryz.func146,Tryz.ntmps146
   go_wp2
   go_ret;exact⟨by rw[e.o];rfl,rfl⟩
 ·have e:=κ (btw_l (a:=a) (n:=n) (b:=b) (by omega))
  go_enter Tryz.func146,Tryz.ntmps146
  go_wp2
  go_ret;exact⟨by rw[e.o];rfl,rfl⟩
theorem hasN_any(A:Option Addr)(n c:Nat)(k:Int)(w:World):
  Calls Tryz.prog 111 #[.slice A n c,.int .i64 k] w (ToldB (inR n k) w):=by
 by_cases h0:0≤k
 ·by_cases h1:k<n
  ·go_enter Tryz.func111,Tryz.ntmps111
   go_wp2
   go_ret;exact⟨by rw[inR_t h0 h1];rfl,rfl⟩
  ·go_enter Tryz.func111,Tryz.ntmps111
   go_wp2
   go_ret;exact⟨by rw[inR_f (by omega)];rfl,rfl⟩
 ·go_enter Tryz.func111,Tryz.ntmps111
  go_wp2
  go_ret;exact⟨by rw[inR_f (by omega)];rfl,rfl⟩
theorem hasI_any(A:Option Addr)(n c:Nat)(k:Int)(w:World):
  Calls Tryz.prog 127 #[.slice A n c,.int .i64 k] w (ToldB (inR n k) w):=by
 by_cases h0:0≤k
 ·by_cases h1:k<n
  ·go_enter Tryz.func127,Tryz.ntmps127
   go_wp2
   go_ret;exact⟨by rw[inR_t h0 h1];rfl,rfl⟩
  ·go_enter Tryz.func127,Tryz.ntmps127
   go_wp2
   go_ret;exact⟨by rw[inR_f (by omega)];rfl,rfl⟩
 ·go_enter Tryz.func127,Tryz.ntmps127
  go_wp2
  go_ret;exact⟨by rw[inR_f (by omega)];rfl,rfl⟩
theorem hasS_any(A:Option Addr)(n c:Nat)(k:Int)(w:World):
  Calls Tryz.prog 128 #[.slice A n c,.int .i64 k] w (ToldB (inR n k) w):=by
 by_cases h0:0≤k
 ·by_cases h1:k<n
  ·go_enter Tryz.func128,Tryz.ntmps128
   go_wp2
   go_ret;exact⟨by rw[inR_t h0 h1];rfl,rfl⟩
  ·go_enter Tryz.func128,Tryz.ntmps128
   go_wp2
   go_ret;exact⟨by rw[inR_f (by omega)];rfl,rfl⟩
 ·go_enter Tryz.func128,Tryz.ntmps128
  go_wp2
  go_ret;exact⟨by rw[inR_f (by omega)];rfl,rfl⟩
theorem sized_any(sh wi ra ta:Int)(A B C:Option Addr)(n m k c d f:Nat)(w:World):
  Calls Tryz.prog 109 #[.agg #[.int .i64 sh,.int .i64 wi,.int .i64 ra,.int .i64 ta,.slice A n c,.slice B m d,.slice C k f]] w (MadeB (sizB sh wi ra ta) w):=by
 have E:Hid (sizB sh wi ra ta=(btwB 1 sh 4&&btwB 0 wi 16&&btwB 1 ra 1000&&btwB 1 ta 64)):=rfl;cases h1:btwB 1 sh 4
 ·have a:Hid (sizB sh wi ra ta=false):=by have:=E.o;rw[h1]at this;exact this
  go_enter Tryz.func109,Tryz.ntmps109
  go_wp2_with (go_at_call 143;refine(btwI_any _ _ _ _).mono ?_;rintro e b ⟨rfl,rfl⟩)
  go_ret;exact madeB_mk a.o (ψ.alloc τ _)
 cases h2:btwB 0 wi 16
 ·have a:Hid (sizB sh wi ra ta=false):=by have:=E.o;rw[h1,h2]at this;exact this
  go_enter Tryz.func109,Tryz.ntmps109
  go_wp2_with (go_at_call 143;refine(btwI_any _ _ _ _).mono ?_;rintro e b ⟨rfl,rfl⟩)
  go_ret;exact madeB_mk a.o (ψ.alloc τ _)
 cases h3:btwB 1 ra 1000
 ·have a:Hid (sizB sh wi ra ta=false):=by have:=E.o;rw[h1,h2,h3]at this;exact this
  go_enter Tryz.func109,Tryz.ntmps109
  go_wp2_with (go_at_call 143;refine(btwI_any _ _ _ _).mono ?_;rintro e b ⟨rfl,rfl⟩)
  go_ret;exact madeB_mk a.o (ψ.alloc τ _)
 cases h4:btwB 1 ta 64
 ·have a:Hid (sizB sh wi ra ta=false):=by have:=E.o;rw[h1,h2,h3,h4]at this;exact this
  go_enter Tryz.func109,Tryz.ntmps109
  go_wp2_with (go_at_call 143;refine(btwI_any _ _ _ _).mono ?_;rintro e b ⟨rfl,rfl⟩)
  go_ret;exact madeB_mk a.o (ψ.alloc τ _)
 ·have a:Hid (sizB sh wi ra ta=true):=by have:=E.o;rw[h1,h2,h3,h4]at this;exact this
  go_enter Tryz.func109,Tryz.ntmps109
  go_wp2_with (go_at_call 143;refine(btwI_any _ _ _ _).mono ?_;rintro e b ⟨rfl,rfl⟩)
  go_ret;exact madeB_mk a.o (ψ.alloc τ _)
theorem tradable_any(p q wo:Int)(b:Nat)(w:World):
  Calls Tryz.prog 112 #[.agg #[.int .i64 p,.int .i64 q,.int .i64 wo,.float .f64 b]] w (MadeB (symB p q wo b) w):=by
 have E:Hid (symB p q wo b=(btwB 1 p 1099511627776&&btwB 1 q 1099511627776&&decide (0≤wo)&&rightB b)):=rfl;cases h1:btwB 1 p 1099511627776
 ·have a:Hid (symB p q wo b=false):=by have:=E.o;rw[h1]at this;exact this
  go_enter Tryz.func112,Tryz.ntmps112
  go_wp2_with (first|(go_at_call 146;refine(btwL_any _ _ _ _).mono ?_;rintro e c ⟨rfl,rfl⟩)|(go_at_call 147;refine(Bnd.right_any _ _).mono ?_;rintro e c ⟨rfl,rfl⟩))
  go_ret;exact madeB_mk a.o (ψ.alloc τ _)
 cases h2:btwB 1 q 1099511627776
 ·have a:Hid (symB p q wo b=false):=by have:=E.o;rw[h1,h2]at this;exact this
  go_enter Tryz.func112,Tryz.ntmps112
  go_wp2_with (first|(go_at_call 146;refine(btwL_any _ _ _ _).mono ?_;rintro e c ⟨rfl,rfl⟩)|(go_at_call 147;refine(Bnd.right_any _ _).mono ?_;rintro e c ⟨rfl,rfl⟩))
  go_ret;exact madeB_mk a.o (ψ.alloc τ _)
 by_cases h3:0≤wo
 ·cases d:rightB b
  ·have a:Hid (symB p q wo b=false):=by have:=E.o;rw[h1,h2,d,decide_eq_true h3]at this;exact this
   go_enter Tryz.func112,Tryz.ntmps112
   go_wp2_with (first|(go_at_call 146;refine(btwL_any _ _ _ _).mono ?_;rintro e c ⟨rfl,rfl⟩)|(go_at_call 147;refine(Bnd.right_any _ _).mono ?_;rintro e c ⟨rfl,rfl⟩))
   go_ret;exact madeB_mk a.o (ψ.alloc τ _)
  ·have a:Hid (symB p q wo b=true):=by have:=E.o;rw[h1,h2,d,decide_eq_true h3]at this;exact this
   go_enter Tryz.func112,Tryz.ntmps112
   go_wp2_with (first|(go_at_call 146;refine(btwL_any _ _ _ _).mono ?_;rintro e c ⟨rfl,rfl⟩)|(go_at_call 147;refine(Bnd.right_any _ _).mono ?_;rintro e c ⟨rfl,rfl⟩))
   go_ret;exact madeB_mk a.o (ψ.alloc τ _)
 ·have a:Hid (symB p q wo b=false):=by have:=E.o;rw[h1,h2,decide_eq_false h3]at this;exact this
  have d:=decide_eq_false h3
  go_enter Tryz.func112,Tryz.ntmps112
  go_wp2_with (first|(go_at_call 146;refine(btwL_any _ _ _ _).mono ?_;rintro e c ⟨rfl,rfl⟩)|(go_at_call 147;refine(Bnd.right_any _ _).mono ?_;rintro e c ⟨rfl,rfl⟩))
  go_ret;exact madeB_mk a.o (ψ.alloc τ _)
theorem check5_any(sh wi ra ta:Int)(A B C:Option Addr)(c d f:Nat)(nd:List (Int×Int))(ac:List Int)(sy:List (Int×Int×Int×Nat))(w:World)
  (hl:Hid (Nds w w.heap.size A nd))(hu:Hid (Ris w w.heap.size B ac))(hs:Hid (Smb w w.heap.size C sy))(hw:Hid (WfN nd))(hmax:(nd.length:Int)≤1000000)(hmay:(ac.length:Int)≤1000000)(hmaz:(sy.length:Int)≤1000000):
  Calls Tryz.prog 79 #[.agg #[.int .i64 sh,.int .i64 wi,.int .i64 ra,.int .i64 ta,.slice A nd.length c,.slice B ac.length d,.slice C sy.length f]] w (MadeX (cfgF sh wi ra ta nd ac sy) w):=by
 have t:=β w (.cells (vC sh wi ra ta A nd.length c B ac.length d C sy.length f) 43);have L:=θ hl.o t;have v:=η hu.o t;have O:Hid (Smb (w.alloc (.cells (vC sh wi ra ta A nd.length c B ac.length d C sy.length f) 43)) (w.alloc (.cells (vC sh wi ra ta A nd.length c B ac.length d C sy.length f) 43)).heap.size C sy):=Rd.below' hs.o t t.size;have P:=κ (Blk.fresh w 43 (vC sh wi ra ta A nd.length c B ac.length d C sy.length f))
 go_enter Tryz.func79,Tryz.ntmps79
 go_wp2_with fail
 generalize (w.alloc (.cells (vC sh wi ra ta A nd.length c B ac.length d C sy.length f) 43))=W0 at t L v O P ⊢;refine(sized_any sh wi ra ta A B C nd.length ac.length sy.length c d f _).mono ?_;rintro e Q ⟨rfl,l⟩;have R:=below_step t l;have S:=κ (Blk.below' P.o l);have l1:=θ L.o l;have G:=η v.o l;have s1:Hid (Smb Q Q.heap.size C sy):=Rd.below' O.o l l.size;have f4:=χ (S.o.cell 4);clear t L v O P l;cases hsz:sizB sh wi ra ta
 ·have E:Hid (cfgF sh wi ra ta nd ac sy=1):=cfgF_1 hsz
  go_wp2_with fail
  go_ret;exact madeX_mk E.o R
 have h:=κ hsz
 go_wp2_with fail
 refine(check_any A c nd Q l1.o hw (by omega)).mono ?_;rintro e H ⟨rfl,n⟩;have x:=below_step R n;have T:=κ (Blk.below' S.o n);have U:=η G.o n;have s2:Hid (Smb H H.heap.size C sy):=Rd.below' s1.o n n.size;have g4:=χ (T.o.cell 4);have g5:=χ (T.o.cell 5);have g6:=χ (T.o.cell 6);clear R S l1 G s1 n f4 hsz;by_cases hc:(chk nd).1=0
 case neg=>
  have c1:((chk nd).1 != 0)=true:=by simp[hc]
  have c2:((chk nd).1==0)=false:=by simp[hc]
  have E:Hid (cfgF sh wi ra ta nd ac sy=(chk nd).1):=cfgF_2 h.o hc;clear hc
  go_wp2_with fail
  go_ret;exact madeX_mk E.o x
 have c1:((chk nd).1 != 0)=false:=by simp[hc]
 have c2:((chk nd).1==0)=true:=by simp[hc]
 have y:=κ hc;clear hc;by_cases ha0:ac.length=0
 ·have q1:((ac.length:Int)==0)=true:=beq_iff_eq.2 (by omega);have E:Hid (cfgF sh wi ra ta nd ac sy=3):=cfgF_3 h.o y.o (.inl ha0);clear ha0
  go_wp2_with fail
  go_ret;exact madeX_mk E.o x
 have q1:((ac.length:Int)==0)=false:=beq_eq_false_iff_ne.2 (by omega);by_cases ha1:32<ac.length
 ·have E:Hid (cfgF sh wi ra ta nd ac sy=3):=cfgF_3 h.o y.o (.inr ha1)
  go_wp2_with fail
  go_ret;exact madeX_mk E.o x
 have I:Hid (¬(ac.length=0∨32<ac.length)):=by show ¬_;omega
 clear ha0
 go_wp2_with fail
 go_loopg [34] ac.length (fun g V W=> ∃(k:Nat),k+g=ac.length∧V= ι k∧Hid (∀i,i<k→inR nd.length (gI ac i)=true)∧H=W)
 case atStart=>exact⟨0,by omega,rfl,fun i z=>absurd z (Nat.not_lt_zero i),rfl⟩
 case round=>
  obtain⟨k,hk,rfl,s,rfl⟩:=hrel;by_cases hlt:(k:Int)<(ac.length:Int)
  ·obtain⟨g,rfl⟩: ∃g,gk=g+1:=⟨gk-1,by omega⟩;obtain⟨b,o,rfl,J,q⟩:=Ris.at (i:=k) U.o (by omega);have d0:=q k (by omega);clear q;cases hin:inR nd.length (gI ac k)
   ·have E:Hid (cfgF sh wi ra ta nd ac sy=18):=cfgF_4 h.o y.o I.o (accB_f (by omega) hin)
    go_wp2_with (go_at_call 111;refine(hasN_any _ _ _ _ _).mono ?_;rintro e X ⟨rfl,rfl⟩)
    go_ret;exact madeX_mk E.o x
   ·have m:Hid (∀i,i<k+1→inR nd.length (gI ac i)=true):=fun i z=>by
     by_cases e:i=k
     ·subst e;exact hin
     ·exact s.o i (by omega)
    go_wp2_with (go_at_call 111;refine(hasN_any _ _ _ _ _).mono ?_;rintro e X ⟨rfl,rfl⟩)
    go_roundg g
    case measure=>omega
    case rel=>exact⟨k+1,by omega,by go_num,m,rfl⟩
  ·have K:=κ (accB_t fun i z=>s.o i (by omega));clear hk;by_cases ha0:sy.length=0
   ·have q2:((sy.length:Int)==0)=true:=beq_iff_eq.2 (by omega);have E:=κ (cfgF_5 h.o y.o I.o K.o (.inl ha0));clear ha0
    go_wp2_with fail
    go_ret;exact madeX_mk E.o x
   have q2:((sy.length:Int)==0)=false:=beq_eq_false_iff_ne.2 (by omega);by_cases ha2:16<sy.length
   ·have E:=κ (cfgF_5 h.o y.o I.o K.o (.inr ha2))
    go_wp2_with fail
    go_ret;exact madeX_mk E.o x
   have HD:Hid (¬(sy.length=0∨16<sy.length)):=by show ¬_;omega
   clear ha0
   go_wp2_with fail
   go_loopg [57] sy.length (fun g Y W=> ∃(j:Nat),j+g=sy.length∧Y= ι j∧Hid (∀i,i<j→symB (sP sy i) (sQ sy i) (sW sy i) (sB sy i)=true)∧Below H.heap.size H W)
   case atStart=>exact⟨0,by omega,rfl,fun i z=>absurd z (Nat.not_lt_zero i),Below.refl _ _⟩
   case round=>
    obtain⟨j,hj,rfl,r,a⟩:=hrel;have Z:=below_step x a;by_cases hlt2:(j:Int)<(sy.length:Int)
    ·obtain⟨g,rfl⟩: ∃g,gk=g+1:=⟨gk-1,by omega⟩;obtain⟨b,o,rfl,J,q⟩:=Smb.at (i:=j) s2.o (by omega);obtain⟨r0,r1,r2,r3⟩:=q j (by omega);have d0:=(a.cell (p:=(α b (o+j*4))) J).trans r0;have d1:=(a.cell (p:=(α b (o+j*4+1))) J).trans r1;have d2:=(a.cell (p:=(α b (o+j*4+2))) J).trans r2;have d3:=(a.cell (p:=(α b (o+j*4+3))) J).trans r3;clear q r0 r1 r2 r3;cases hin:symB (sP sy j) (sQ sy j) (sW sy j) (sB sy j)
     ·have E:=κ (cfgF_6 h.o y.o I.o K.o HD.o (tabB_f (by omega) hin))
      go_wp2_with fail
      refine(tradable_any _ _ _ _ _).mono ?_;rintro e X ⟨rfl,F⟩;have b3:=below_step (Z.alloc Z.size _) F
      go_wp2_with fail
      go_ret;exact madeX_mk E.o b3
     ·have m:Hid (∀i,i<j+1→symB (sP sy i) (sQ sy i) (sW sy i) (sB sy i)=true):=fun i z=>by
       by_cases e:i=j
       ·subst e;exact hin
       ·exact r.o i (by omega)
      go_wp2_with fail
      refine(tradable_any _ _ _ _ _).mono ?_;rintro e X ⟨rfl,F⟩;have b3:=below_step (a.alloc a.size _) F
      go_wp2_with fail
      go_roundg g
      case measure=>omega
      case rel=>exact⟨j+1,by omega,by go_num,m,b3⟩
    ·have E:=κ (cfgF_7 h.o y.o I.o K.o HD.o (tabB_t fun i z=>r.o i (by omega)))
     go_wp2_with fail
     go_ret;exact madeX_mk E.o Z
end Rul1
end Go.Proofs.YtcccdikhfgpamaaGreat
