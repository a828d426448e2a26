/- Texts side by side. -/
import Derived.Test.YtaeddnjjeholgaaGreatUgbr
set_option linter.unusedVariables false
set_option linter.unusedSimpArgs false
set_option maxRecDepth 100000
set_option maxHeartbeats 16000000
namespace Go.Proofs.YtaeddnjjeholgaaGreat
open Go.ChangeShapes Go.WideShapes Go.ChangeAt Go.RowKit Mem Tre Ref3 Law3 Fix3 Opn Bnd Flo Cfg
namespace Rul1
open Kap Abv
attribute [local go_sem] run_store_float
def MadeX(x:Int)(w:World)(e:Ending)(w':World):Prop:=e= .returned (.int .i64 x)∧Below w.heap.size w w'
theorem madeX_mk{x y:Int}{w w':World}(h:x=y)(hb:Below w.heap.size w w'):MadeX x w (.returned (.int .i64 y)) w':=by subst h;exact⟨rfl,hb⟩
theorem below_step{a b c:World}(h:Below a.heap.size a b)(k:Below b.heap.size b c):Below a.heap.size a c:=h.trans (k.mono h.size)
theorem btwI_any(a n b:Int)(w:World):Calls Tryz.prog 91 #[.int .i64 a,.int .i64 n,.int .i64 b] w (ToldB (btwB a n b) w):=by
 by_cases h0:a≤n
 ·by_cases h1:n≤b
  ·have e:=κ (btw_t h0 h1)
   go_enter Tryz.func91,Tryz.ntmps91
   go_wp2
   go_ret;exact⟨by rw[e.out];rfl,rfl⟩
  ·have e:=κ (btw_g (a:=a) (n:=n) (b:=b) (by omega))
   go_enter Tryz.func91,Tryz.ntmps91
   go_wp2
   go_ret;exact⟨by rw[e.out];rfl,rfl⟩
 ·have e:=κ (btw_l (a:=a) (n:=n) (b:=b) (by omega))
  go_enter Tryz.func91,Tryz.ntmps91
  go_wp2
  go_ret;exact⟨by rw[e.out];rfl,rfl⟩
theorem btwL_any(a n b:Int)(w:World):Calls Tryz.prog 94 #[.int .i64 a,.int .i64 n,.int .i64 b] w (ToldB (btwB a n b) w):=by
 by_cases h0:a≤n
 ·by_cases h1:n≤b
  ·have e:=κ (btw_t h0 h1)
   go_enter Tryz.func94,Tryz.ntmps94
   go_wp2
   go_ret;exact⟨by rw[e.out];rfl,rfl⟩
  ·have e:=κ (btw_g (a:=a) (n:=n) (b:=b) (by omega))
   go_enter Tryz.func94,Tryz.ntmps94
   go_wp2
   go_ret;exact⟨by rw[e.out];rfl,rfl⟩
 ·have e:=κ (btw_l (a:=a) (n:=n) (b:=b) (by omega))
  go_enter Tryz.func94,Tryz.ntmps94
  go_wp2
  go_ret;exact⟨by rw[e.out];rfl,rfl⟩
theorem hasN_any(A:Option Addr)(n c:Nat)(k:Int)(w:World):
  Calls Tryz.prog 65 #[.slice A n c,.int .i64 k] w (ToldB (inR n k) w):=by
 by_cases h0:0≤k
 ·by_cases h1:k<n
  ·go_enter Tryz.func65,Tryz.ntmps65
   go_wp2
   go_ret;exact⟨by rw[inR_t h0 h1];rfl,rfl⟩
  ·go_enter Tryz.func65,Tryz.ntmps65
   go_wp2
   go_ret;exact⟨by rw[inR_f (by omega)];rfl,rfl⟩
 ·go_enter Tryz.func65,Tryz.ntmps65
  go_wp2
  go_ret;exact⟨by rw[inR_f (by omega)];rfl,rfl⟩
theorem hasI_any(A:Option Addr)(n c:Nat)(k:Int)(w:World):
  Calls Tryz.prog 146 #[.slice A n c,.int .i64 k] w (ToldB (inR n k) w):=by
 by_cases h0:0≤k
 ·by_cases h1:k<n
  ·go_enter Tryz.func146,Tryz.ntmps146
   go_wp2
   go_ret;exact⟨by rw[inR_t h0 h1];rfl,rfl⟩
  ·go_enter Tryz.func146,Tryz.ntmps146
   go_wp2
   go_ret;exact⟨by rw[inR_f (by omega)];rfl,rfl⟩
 ·go_enter Tryz.func146,Tryz.ntmps146
  go_wp2
  go_ret;exact⟨by rw[inR_f (by omega)];rfl,rfl⟩
theorem hasS_any(A:Option Addr)(n c:Nat)(k:Int)(w:World):
  Calls Tryz.prog 147 #[.slice A n c,.int .i64 k] w (ToldB (inR n k) w):=by
 by_cases h0:0≤k
 ·by_cases h1:k<n
  ·go_enter Tryz.func147,Tryz.ntmps147
   go_wp2
   go_ret;exact⟨by rw[inR_t h0 h1];rfl,rfl⟩
  ·go_enter Tryz.func147,Tryz.ntmps147
   go_wp2
   go_ret;exact⟨by rw[inR_f (by omega)];rfl,rfl⟩
 ·go_enter Tryz.func147,Tryz.ntmps147
  go_wp2
  go_ret;exact⟨by rw[inR_f (by omega)];rfl,rfl⟩
theorem sized_any(sh wi ra ta:Int)(A B C:Option Addr)(n m k c d f:Nat)(w:World):
  Calls Tryz.prog 63 #[.agg #[.int .i64 sh,.int .i64 wi,.int .i64 ra,.int .i64 ta,.slice A n c,.slice B m d,.slice C k f]] w (MadeB (sizB sh wi ra ta) w):=by
 have E:Hid (sizB sh wi ra ta=(btwB 1 sh 4&&btwB 0 wi 16&&btwB 1 ra 1000&&btwB 1 ta 64)):=rfl;cases h1:btwB 1 sh 4
 ·have E1:Hid (sizB sh wi ra ta=false):=by have:=E.out;rw[h1]at this;exact this
  go_enter Tryz.func63,Tryz.ntmps63
  go_wp2_with (go_at_call 91;refine(btwI_any _ _ _ _).mono ?_;rintro e w1 ⟨rfl,rfl⟩)
  go_ret;exact madeB_mk E1.out (ψ.alloc τ _)
 cases h2:btwB 0 wi 16
 ·have E1:Hid (sizB sh wi ra ta=false):=by have:=E.out;rw[h1,h2]at this;exact this
  go_enter Tryz.func63,Tryz.ntmps63
  go_wp2_with (go_at_call 91;refine(btwI_any _ _ _ _).mono ?_;rintro e w1 ⟨rfl,rfl⟩)
  go_ret;exact madeB_mk E1.out (ψ.alloc τ _)
 cases h3:btwB 1 ra 1000
 ·have E1:Hid (sizB sh wi ra ta=false):=by have:=E.out;rw[h1,h2,h3]at this;exact this
  go_enter Tryz.func63,Tryz.ntmps63
  go_wp2_with (go_at_call 91;refine(btwI_any _ _ _ _).mono ?_;rintro e w1 ⟨rfl,rfl⟩)
  go_ret;exact madeB_mk E1.out (ψ.alloc τ _)
 cases h4:btwB 1 ta 64
 ·have E1:Hid (sizB sh wi ra ta=false):=by have:=E.out;rw[h1,h2,h3,h4]at this;exact this
  go_enter Tryz.func63,Tryz.ntmps63
  go_wp2_with (go_at_call 91;refine(btwI_any _ _ _ _).mono ?_;rintro e w1 ⟨rfl,rfl⟩)
  go_ret;exact madeB_mk E1.out (ψ.alloc τ _)
 ·have E1:Hid (sizB sh wi ra ta=true):=by have:=E.out;rw[h1,h2,h3,h4]at this;exact this
  go_enter Tryz.func63,Tryz.ntmps63
  go_wp2_with (go_at_call 91;refine(btwI_any _ _ _ _).mono ?_;rintro e w1 ⟨rfl,rfl⟩)
  go_ret;exact madeB_mk E1.out (ψ.alloc τ _)
theorem tradable_any(p q wo:Int)(b:Nat)(w:World):
  Calls Tryz.prog 66 #[.agg #[.int .i64 p,.int .i64 q,.int .i64 wo,.float .f64 b]] w (MadeB (symB p q wo b) w):=by
 have E:Hid (symB p q wo b=(btwB 1 p 1099511627776&&btwB 1 q 1099511627776&&decide (0≤wo)&&rightB b)):=rfl;cases h1:btwB 1 p 1099511627776
 ·have E1:Hid (symB p q wo b=false):=by have:=E.out;rw[h1]at this;exact this
  go_enter Tryz.func66,Tryz.ntmps66
  go_wp2_with (first|(go_at_call 94;refine(btwL_any _ _ _ _).mono ?_;rintro e w1 ⟨rfl,rfl⟩)|(go_at_call 95;refine(Bnd.right_any _ _).mono ?_;rintro e w1 ⟨rfl,rfl⟩))
  go_ret;exact madeB_mk E1.out (ψ.alloc τ _)
 cases h2:btwB 1 q 1099511627776
 ·have E1:Hid (symB p q wo b=false):=by have:=E.out;rw[h1,h2]at this;exact this
  go_enter Tryz.func66,Tryz.ntmps66
  go_wp2_with (first|(go_at_call 94;refine(btwL_any _ _ _ _).mono ?_;rintro e w1 ⟨rfl,rfl⟩)|(go_at_call 95;refine(Bnd.right_any _ _).mono ?_;rintro e w1 ⟨rfl,rfl⟩))
  go_ret;exact madeB_mk E1.out (ψ.alloc τ _)
 by_cases h3:0≤wo
 ·cases h4:rightB b
  ·have E1:Hid (symB p q wo b=false):=by have:=E.out;rw[h1,h2,h4,decide_eq_true h3]at this;exact this
   go_enter Tryz.func66,Tryz.ntmps66
   go_wp2_with (first|(go_at_call 94;refine(btwL_any _ _ _ _).mono ?_;rintro e w1 ⟨rfl,rfl⟩)|(go_at_call 95;refine(Bnd.right_any _ _).mono ?_;rintro e w1 ⟨rfl,rfl⟩))
   go_ret;exact madeB_mk E1.out (ψ.alloc τ _)
  ·have E1:Hid (symB p q wo b=true):=by have:=E.out;rw[h1,h2,h4,decide_eq_true h3]at this;exact this
   go_enter Tryz.func66,Tryz.ntmps66
   go_wp2_with (first|(go_at_call 94;refine(btwL_any _ _ _ _).mono ?_;rintro e w1 ⟨rfl,rfl⟩)|(go_at_call 95;refine(Bnd.right_any _ _).mono ?_;rintro e w1 ⟨rfl,rfl⟩))
   go_ret;exact madeB_mk E1.out (ψ.alloc τ _)
 ·have E1:Hid (symB p q wo b=false):=by have:=E.out;rw[h1,h2,decide_eq_false h3]at this;exact this
  have h4:=decide_eq_false h3
  go_enter Tryz.func66,Tryz.ntmps66
  go_wp2_with (first|(go_at_call 94;refine(btwL_any _ _ _ _).mono ?_;rintro e w1 ⟨rfl,rfl⟩)|(go_at_call 95;refine(Bnd.right_any _ _).mono ?_;rintro e w1 ⟨rfl,rfl⟩))
  go_ret;exact madeB_mk E1.out (ψ.alloc τ _)
theorem check5_any(sh wi ra ta:Int)(A B C:Option Addr)(c d f:Nat)(nd:List (Int×Int))(ac:List Int)(sy:List (Int×Int×Int×Nat))(w:World)
  (hl:Hid (Nds w w.heap.size A nd))(hu:Hid (Ris w w.heap.size B ac))(hs:Hid (Smb w w.heap.size C sy))(hw:Hid (WfN nd))(hmax:(nd.length:Int)≤1000000)(hmay:(ac.length:Int)≤1000000)(hmaz:(sy.length:Int)≤1000000):
  Calls Tryz.prog 33 #[.agg #[.int .i64 sh,.int .i64 wi,.int .i64 ra,.int .i64 ta,.slice A nd.length c,.slice B ac.length d,.slice C sy.length f]] w (MadeX (cfgF sh wi ra ta nd ac sy) w):=by
 have b0:=β w (.cells (vC sh wi ra ta A nd.length c B ac.length d C sy.length f) 43);have l0:=θ hl.out b0;have ua0:=η hu.out b0;have s0:Hid (Smb (w.alloc (.cells (vC sh wi ra ta A nd.length c B ac.length d C sy.length f) 43)) (w.alloc (.cells (vC sh wi ra ta A nd.length c B ac.length d C sy.length f) 43)).heap.size C sy):=Rd.below' hs.out b0 b0.size;have k0:=κ (Blk.fresh w 43 (vC sh wi ra ta A nd.length c B ac.length d C sy.length f))
 go_enter Tryz.func33,Tryz.ntmps33
 go_wp2_with fail
 generalize (w.alloc (.cells (vC sh wi ra ta A nd.length c B ac.length d C sy.length f) 43))=W0 at b0 l0 ua0 s0 k0 ⊢;refine(sized_any sh wi ra ta A B C nd.length ac.length sy.length c d f _).mono ?_;rintro e w1 ⟨rfl,hb1⟩;have b1:=below_step b0 hb1;have k1:=κ (Blk.below' k0.out hb1);have l1:=θ l0.out hb1;have ua1:=η ua0.out hb1;have s1:Hid (Smb w1 w1.heap.size C sy):=Rd.below' s0.out hb1 hb1.size;have f4:=χ (k1.out.cell 4);clear b0 l0 ua0 s0 k0 hb1;cases hsz:sizB sh wi ra ta
 ·have E:Hid (cfgF sh wi ra ta nd ac sy=1):=cfgF_1 hsz
  go_wp2_with fail
  go_ret;exact madeX_mk E.out b1
 have HSZ:=κ hsz
 go_wp2_with fail
 refine(check_any A c nd w1 l1.out hw (by omega)).mono ?_;rintro e w2 ⟨rfl,hb2⟩;have b2:=below_step b1 hb2;have k2:=κ (Blk.below' k1.out hb2);have ua2:=η ua1.out hb2;have s2:Hid (Smb w2 w2.heap.size C sy):=Rd.below' s1.out hb2 hb2.size;have g4:=χ (k2.out.cell 4);have g5:=χ (k2.out.cell 5);have g6:=χ (k2.out.cell 6);clear b1 k1 l1 ua1 s1 hb2 f4 hsz;by_cases hc:(chk nd).1=0
 case neg=>
  have c1:((chk nd).1 != 0)=true:=by simp[hc]
  have c2:((chk nd).1==0)=false:=by simp[hc]
  have E:Hid (cfgF sh wi ra ta nd ac sy=(chk nd).1):=cfgF_2 HSZ.out hc;clear hc
  go_wp2_with fail
  go_ret;exact madeX_mk E.out b2
 have c1:((chk nd).1 != 0)=false:=by simp[hc]
 have c2:((chk nd).1==0)=true:=by simp[hc]
 have HC:=κ hc;clear hc;by_cases ha0:ac.length=0
 ·have q1:((ac.length:Int)==0)=true:=beq_iff_eq.2 (by omega);have E:Hid (cfgF sh wi ra ta nd ac sy=3):=cfgF_3 HSZ.out HC.out (.inl ha0);clear ha0
  go_wp2_with fail
  go_ret;exact madeX_mk E.out b2
 have q1:((ac.length:Int)==0)=false:=beq_eq_false_iff_ne.2 (by omega);by_cases ha1:32<ac.length
 ·have E:Hid (cfgF sh wi ra ta nd ac sy=3):=cfgF_3 HSZ.out HC.out (.inr ha1)
  go_wp2_with fail
  go_ret;exact madeX_mk E.out b2
 have HA:Hid (¬(ac.length=0∨32<ac.length)):=by show ¬_;omega
 clear ha0
 go_wp2_with fail
 go_loopg [34] ac.length (fun g s34 w'=> ∃(k:Nat),k+g=ac.length∧s34= ι k∧Hid (∀i,i<k→inR nd.length (gI ac i)=true)∧w2=w')
 case atStart=>exact⟨0,by omega,rfl,fun i hi=>absurd hi (Nat.not_lt_zero i),rfl⟩
 case round=>
  obtain⟨k,hk,rfl,hall,rfl⟩:=hrel;by_cases hlt:(k:Int)<(ac.length:Int)
  ·obtain⟨g,rfl⟩: ∃g,gk=g+1:=⟨gk-1,by omega⟩;obtain⟨b,o,rfl,hb,hcc⟩:=Ris.at (i:=k) ua2.out (by omega);have d0:=hcc k (by omega);clear hcc;cases hin:inR nd.length (gI ac k)
   ·have E:Hid (cfgF sh wi ra ta nd ac sy=18):=cfgF_4 HSZ.out HC.out HA.out (accB_f (by omega) hin)
    go_wp2_with (go_at_call 65;refine(hasN_any _ _ _ _ _).mono ?_;rintro e w3 ⟨rfl,rfl⟩)
    go_ret;exact madeX_mk E.out b2
   ·have hall':Hid (∀i,i<k+1→inR nd.length (gI ac i)=true):=fun i hi=>by
     by_cases e:i=k
     ·subst e;exact hin
     ·exact hall.out i (by omega)
    go_wp2_with (go_at_call 65;refine(hasN_any _ _ _ _ _).mono ?_;rintro e w3 ⟨rfl,rfl⟩)
    go_roundg g
    case measure=>omega
    case rel=>exact⟨k+1,by omega,by go_num,hall',rfl⟩
  ·have HB:=κ (accB_t fun i hi=>hall.out i (by omega));clear hk;by_cases ha0:sy.length=0
   ·have q2:((sy.length:Int)==0)=true:=beq_iff_eq.2 (by omega);have E:=κ (cfgF_5 HSZ.out HC.out HA.out HB.out (.inl ha0));clear ha0
    go_wp2_with fail
    go_ret;exact madeX_mk E.out b2
   have q2:((sy.length:Int)==0)=false:=beq_eq_false_iff_ne.2 (by omega);by_cases ha2:16<sy.length
   ·have E:=κ (cfgF_5 HSZ.out HC.out HA.out HB.out (.inr ha2))
    go_wp2_with fail
    go_ret;exact madeX_mk E.out b2
   have HD:Hid (¬(sy.length=0∨16<sy.length)):=by show ¬_;omega
   clear ha0
   go_wp2_with fail
   go_loopg [57] sy.length (fun g s57 w'=> ∃(j:Nat),j+g=sy.length∧s57= ι j∧Hid (∀i,i<j→symB (sP sy i) (sQ sy i) (sW sy i) (sB sy i)=true)∧Below w2.heap.size w2 w')
   case atStart=>exact⟨0,by omega,rfl,fun i hi=>absurd hi (Nat.not_lt_zero i),Below.refl _ _⟩
   case round=>
    obtain⟨j,hj,rfl,hall2,hbel⟩:=hrel;have bE:=below_step b2 hbel;by_cases hlt2:(j:Int)<(sy.length:Int)
    ·obtain⟨g,rfl⟩: ∃g,gk=g+1:=⟨gk-1,by omega⟩;obtain⟨b,o,rfl,hb,hcc⟩:=Smb.at (i:=j) s2.out (by omega);obtain⟨r0,r1,r2,r3⟩:=hcc j (by omega);have d0:=(hbel.cell (p:=(α b (o+j*4))) hb).trans r0;have d1:=(hbel.cell (p:=(α b (o+j*4+1))) hb).trans r1;have d2:=(hbel.cell (p:=(α b (o+j*4+2))) hb).trans r2;have d3:=(hbel.cell (p:=(α b (o+j*4+3))) hb).trans r3;clear hcc r0 r1 r2 r3;cases hin:symB (sP sy j) (sQ sy j) (sW sy j) (sB sy j)
     ·have E:=κ (cfgF_6 HSZ.out HC.out HA.out HB.out HD.out (tabB_f (by omega) hin))
      go_wp2_with fail
      refine(tradable_any _ _ _ _ _).mono ?_;rintro e w3 ⟨rfl,hb3⟩;have b3:=below_step (bE.alloc bE.size _) hb3
      go_wp2_with fail
      go_ret;exact madeX_mk E.out b3
     ·have hall':Hid (∀i,i<j+1→symB (sP sy i) (sQ sy i) (sW sy i) (sB sy i)=true):=fun i hi=>by
       by_cases e:i=j
       ·subst e;exact hin
       ·exact hall2.out i (by omega)
      go_wp2_with fail
      refine(tradable_any _ _ _ _ _).mono ?_;rintro e w3 ⟨rfl,hb3⟩;have b3:=below_step (hbel.alloc hbel.size _) hb3
      go_wp2_with fail
      go_roundg g
      case measure=>omega
      case rel=>exact⟨j+1,by omega,by go_num,hall',b3⟩
    ·have E:=κ (cfgF_7 HSZ.out HC.out HA.out HB.out HD.out (tabB_t fun i hi=>hall2.out i (by omega)))
     go_wp2_with fail
     go_ret;exact madeX_mk E.out bE
end Rul1
namespace Rul2
open Rul1 Rck
attribute [local go_sem] run_store_float
theorem siz_f {sh wi ra ta : Int} (h : sh < 1 ∨ 4 < sh ∨ wi < 0 ∨ 16 < wi ∨ ra < 1 ∨ 1000 < ra ∨ ta < 1 ∨ 64 < ta) : sizB sh wi ra ta = false := by
  unfold sizB btwB
  simp only [Bool.and_eq_false_iff, decide_eq_false_iff_not]
  omega
theorem siz_t {sh wi ra ta : Int} (h : ¬ (sh < 1 ∨ 4 < sh ∨ wi < 0 ∨ 16 < wi ∨ ra < 1 ∨ 1000 < ra ∨ ta < 1 ∨ 64 < ta)) : sizB sh wi ra ta = true := by
  unfold sizB btwB
  simp only [Bool.and_eq_true, decide_eq_true_eq]
  omega
theorem sym_f {p q wo : Int} {b : Nat} (h : p < 1 ∨ 1099511627776 < p ∨ q < 1 ∨ 1099511627776 < q ∨ wo < 0 ∨ rightB b = false) : symB p q wo b = false := by
  unfold symB btwB
  simp only [Bool.and_eq_false_iff, decide_eq_false_iff_not]
  rcases h with h | h | h | h | h | h
  · omega
  · omega
  · omega
  · omega
  · omega
  · exact .inr h
theorem sym_t {p q wo : Int} {b : Nat} (h : ¬ (p < 1 ∨ 1099511627776 < p ∨ q < 1 ∨ 1099511627776 < q ∨ wo < 0)) (hb : rightB b = true) : symB p q wo b = true := by
  unfold symB btwB
  simp only [Bool.and_eq_true, decide_eq_true_eq]
  exact ⟨by omega, hb⟩
theorem rcheck5_any (sh wi ra ta : Int) (A B C : Option Addr) (c d f : Nat) (nd : List (Int × Int)) (ac : List Int) (sy : List (Int × Int × Int × Nat)) (w : World)
    (hl : Hid (Nds w w.heap.size A nd)) (hu : Hid (Ris w w.heap.size B ac)) (hs : Hid (Smb w w.heap.size C sy)) (hw : Hid (WfN nd)) (hmax : (nd.length : Int) ≤ 1000000) (hmay : (ac.length : Int) ≤ 1000000) (hmaz : (sy.length : Int) ≤ 1000000) :
    Calls Tryz.prog 10 #[.agg #[.int .i64 sh, .int .i64 wi, .int .i64 ra, .int .i64 ta, .slice A nd.length c, .slice B ac.length d, .slice C sy.length f]] w (MadeX (cfgF sh wi ra ta nd ac sy) w) := by
  have b0 : Below w.heap.size w (w.alloc (.cells #[.int .i64 sh, .int .i64 wi, .int .i64 ra, .int .i64 ta, .slice A nd.length c, .slice B ac.length d, .slice C sy.length f] 33)) := (Below.refl _ _).alloc (Nat.le_refl _) _
  have l0 : Hid (Nds (w.alloc (.cells #[.int .i64 sh, .int .i64 wi, .int .i64 ra, .int .i64 ta, .slice A nd.length c, .slice B ac.length d, .slice C sy.length f] 33)) (w.alloc (.cells #[.int .i64 sh, .int .i64 wi, .int .i64 ra, .int .i64 ta, .slice A nd.length c, .slice B ac.length d, .slice C sy.length f] 33)).heap.size A nd) := Rd.below' hl.out b0 b0.size
  have ua0 : Hid (Ris (w.alloc (.cells #[.int .i64 sh, .int .i64 wi, .int .i64 ra, .int .i64 ta, .slice A nd.length c, .slice B ac.length d, .slice C sy.length f] 33)) (w.alloc (.cells #[.int .i64 sh, .int .i64 wi, .int .i64 ra, .int .i64 ta, .slice A nd.length c, .slice B ac.length d, .slice C sy.length f] 33)).heap.size B ac) := Rd.below' hu.out b0 b0.size
  have s0 : Hid (Smb (w.alloc (.cells #[.int .i64 sh, .int .i64 wi, .int .i64 ra, .int .i64 ta, .slice A nd.length c, .slice B ac.length d, .slice C sy.length f] 33)) (w.alloc (.cells #[.int .i64 sh, .int .i64 wi, .int .i64 ra, .int .i64 ta, .slice A nd.length c, .slice B ac.length d, .slice C sy.length f] 33)).heap.size C sy) := Rd.below' hs.out b0 b0.size
  have k0 : Hid (Blk (w.alloc (.cells #[.int .i64 sh, .int .i64 wi, .int .i64 ra, .int .i64 ta, .slice A nd.length c, .slice B ac.length d, .slice C sy.length f] 33)) w.heap.size 33 #[.int .i64 sh, .int .i64 wi, .int .i64 ra, .int .i64 ta, .slice A nd.length c, .slice B ac.length d, .slice C sy.length f]) := Blk.fresh _ _ _
  by_cases hh0 : sh < 1
  · have E : Hid (cfgF sh wi ra ta nd ac sy = 1) := cfgF_1 (siz_f (by omega))
    go_enter Tryz.func10, Tryz.ntmps10
    go_wp2_with fail
    go_ret
    exact madeX_mk E.out b0
  by_cases hh1 : 4 < sh
  · have E : Hid (cfgF sh wi ra ta nd ac sy = 1) := cfgF_1 (siz_f (by omega))
    go_enter Tryz.func10, Tryz.ntmps10
    go_wp2_with fail
    go_ret
    exact madeX_mk E.out b0
  by_cases hh2 : wi < 0
  · have E : Hid (cfgF sh wi ra ta nd ac sy = 1) := cfgF_1 (siz_f (by omega))
    go_enter Tryz.func10, Tryz.ntmps10
    go_wp2_with fail
    go_ret
    exact madeX_mk E.out b0
  by_cases hh3 : 16 < wi
  · have E : Hid (cfgF sh wi ra ta nd ac sy = 1) := cfgF_1 (siz_f (by omega))
    go_enter Tryz.func10, Tryz.ntmps10
    go_wp2_with fail
    go_ret
    exact madeX_mk E.out b0
  by_cases hh4 : ra < 1
  · have E : Hid (cfgF sh wi ra ta nd ac sy = 1) := cfgF_1 (siz_f (by omega))
    go_enter Tryz.func10, Tryz.ntmps10
    go_wp2_with fail
    go_ret
    exact madeX_mk E.out b0
  by_cases hh5 : 1000 < ra
  · have E : Hid (cfgF sh wi ra ta nd ac sy = 1) := cfgF_1 (siz_f (by omega))
    go_enter Tryz.func10, Tryz.ntmps10
    go_wp2_with fail
    go_ret
    exact madeX_mk E.out b0
  by_cases hh6 : ta < 1
  · have E : Hid (cfgF sh wi ra ta nd ac sy = 1) := cfgF_1 (siz_f (by omega))
    go_enter Tryz.func10, Tryz.ntmps10
    go_wp2_with fail
    go_ret
    exact madeX_mk E.out b0
  by_cases hh7 : 64 < ta
  · have E : Hid (cfgF sh wi ra ta nd ac sy = 1) := cfgF_1 (siz_f (by omega))
    go_enter Tryz.func10, Tryz.ntmps10
    go_wp2_with fail
    go_ret
    exact madeX_mk E.out b0
  have HSZ : Hid (sizB sh wi ra ta = true) := siz_t (by omega)
  go_enter Tryz.func10, Tryz.ntmps10
  go_wp2_with fail
  generalize (w.alloc (.cells #[.int .i64 sh, .int .i64 wi, .int .i64 ra, .int .i64 ta, .slice A nd.length c, .slice B ac.length d, .slice C sy.length f] 33)) = w1 at b0 l0 ua0 s0 k0 ⊢
  refine (rcheck_any A c nd w1 l0 hw (by omega)).mono ?_
  rintro e w2 ⟨rfl, hb2⟩
  have b2 := below_step b0 hb2
  have k2 := Lib.hid (Blk.below' k0.out hb2)
  have ua2 : Hid (Ris w2 w2.heap.size B ac) := Rd.below' ua0.out hb2 hb2.size
  have s2 : Hid (Smb w2 w2.heap.size C sy) := Rd.below' s0.out hb2 hb2.size
  have g4 : w2.cell? ⟨w.heap.size, 4, none⟩ = some (.slice A nd.length c) := k2.out.cell 4
  have g5 : w2.cell? ⟨w.heap.size, 5, none⟩ = some (.slice B ac.length d) := k2.out.cell 5
  have g6 : w2.cell? ⟨w.heap.size, 6, none⟩ = some (.slice C sy.length f) := k2.out.cell 6
  clear b0 k0 l0 ua0 s0 hb2
  by_cases hc : (chk nd).1 = 0
  case neg =>
    have c1 : ((chk nd).1 != 0) = true := by simp [hc]
    have c2 : ((chk nd).1 == 0) = false := by simp [hc]
    have E : Hid (cfgF sh wi ra ta nd ac sy = (chk nd).1) := cfgF_2 HSZ.out hc
    clear hc
    go_wp2_with fail
    go_ret
    exact madeX_mk E.out b2
  have c1 : ((chk nd).1 != 0) = false := by simp [hc]
  have c2 : ((chk nd).1 == 0) = true := by simp [hc]
  have HC := Lib.hid hc
  clear hc
  by_cases ha0 : (ac.length : Int) < 1
  · have E : Hid (cfgF sh wi ra ta nd ac sy = 3) := cfgF_3 HSZ.out HC.out (.inl (by omega))
    go_wp2_with fail
    go_ret
    exact madeX_mk E.out b2
  by_cases ha1 : 32 < (ac.length : Int)
  · have E : Hid (cfgF sh wi ra ta nd ac sy = 3) := cfgF_3 HSZ.out HC.out (.inr (by omega))
    go_wp2_with fail
    go_ret
    exact madeX_mk E.out b2
  have HA : Hid (¬ (ac.length = 0 ∨ 32 < ac.length)) := by show ¬ _; omega
  have q3 : decide (32 < (ac.length : Int)) = false := by simp; omega
  go_wp2_with fail
  go_loopg [5] ac.length (fun g s5 w' => ∃ (k nq : Nat), k + g = ac.length ∧ s5 = .int .i64 k ∧ Hid (∀ i, i < k → inR nd.length (gI ac i) = true) ∧ w' = w2.drewN nq)
  case atStart => exact ⟨0, 0, by omega, rfl, fun i hi => absurd hi (Nat.not_lt_zero i), rfl⟩
  case round =>
    obtain ⟨k, nq, hk, rfl, hall, rfl⟩ := hrel
    by_cases hlt : (k : Int) < (ac.length : Int)
    · obtain ⟨g, rfl⟩ : ∃ g, gk = g + 1 := ⟨gk - 1, by omega⟩
      obtain ⟨b, o, rfl, hb, hcc⟩ := Ris.at (i := k) ua2.out (by omega)
      have d0 := hcc k (by omega)
      clear hcc
      by_cases hi0 : gI ac k < 0
      · have E : Hid (cfgF sh wi ra ta nd ac sy = 18) := cfgF_4 HSZ.out HC.out HA.out (accB_f (i := k) (by omega) (inR_f (by omega)))
        have z1 : decide (gI ac k < 0) = true := by simp; omega
        go_wp2_with fail
        go_quiet (fail)
        go_wp2_with fail
        go_ret
        exact madeX_mk E.out (Below.drewN' (Below.drewN' b2 _) _)
      have z1 : decide (gI ac k < 0) = false := by simp; omega
      by_cases hi1 : (nd.length : Int) ≤ gI ac k
      · have E : Hid (cfgF sh wi ra ta nd ac sy = 18) := cfgF_4 HSZ.out HC.out HA.out (accB_f (i := k) (by omega) (inR_f (by omega)))
        have z2 : decide ((nd.length : Int) ≤ gI ac k) = true := by simp; omega
        go_wp2_with fail
        go_quiet (fail)
        go_wp2_with fail
        go_ret
        exact madeX_mk E.out (Below.drewN' (Below.drewN' b2 _) _)
      have z2 : decide ((nd.length : Int) ≤ gI ac k) = false := by simp; omega
      have hall' : Hid (∀ i, i < k + 1 → inR nd.length (gI ac i) = true) := fun i hi => by
        by_cases e : i = k
        · subst e; exact inR_t (by omega) (by omega)
        · exact hall.out i (by omega)
      go_wp2_with fail
      go_quiet (fail)
      go_wp2_with fail
      go_roundg g
      case measure => omega
      case rel => exact ⟨k + 1, _, by omega, by go_num, hall', rfl⟩
    · have HB : Hid (accB nd.length ac = true) := accB_t fun i hi => hall.out i (by omega)
      have bq : Below w.heap.size w (w2.drewN nq) := Below.drewN' b2 nq
      have sq : Hid (Smb (w2.drewN nq) (w2.drewN nq).heap.size C sy) := s2.out
      have kq : Hid (Blk (w2.drewN nq) w.heap.size 33 #[.int .i64 sh, .int .i64 wi, .int .i64 ra, .int .i64 ta, .slice A nd.length c, .slice B ac.length d, .slice C sy.length f]) := k2.out
      have g4' : (w2.drewN nq).cell? ⟨w.heap.size, 4, none⟩ = some (.slice A nd.length c) := g4
      have g5' : (w2.drewN nq).cell? ⟨w.heap.size, 5, none⟩ = some (.slice B ac.length d) := g5
      have g6' : (w2.drewN nq).cell? ⟨w.heap.size, 6, none⟩ = some (.slice C sy.length f) := g6
      clear hk g4 g5 g6 b2 s2 k2
      generalize w2.drewN nq = w3 at bq sq kq g4' g5' g6' ⊢
      by_cases ha0 : (sy.length : Int) < 1
      · have E : Hid (cfgF sh wi ra ta nd ac sy = 4) := cfgF_5 HSZ.out HC.out HA.out HB.out (.inl (by omega))
        go_wp2_with fail
        go_ret
        exact madeX_mk E.out bq
      by_cases ha2 : 16 < (sy.length : Int)
      · have E : Hid (cfgF sh wi ra ta nd ac sy = 4) := cfgF_5 HSZ.out HC.out HA.out HB.out (.inr (by omega))
        go_wp2_with fail
        go_ret
        exact madeX_mk E.out bq
      have HD : Hid (¬ (sy.length = 0 ∨ 16 < sy.length)) := by show ¬ _; omega
      have q4 : decide (16 < (sy.length : Int)) = false := by simp; omega
      go_wp2_with fail
      go_loopg [6] sy.length (fun g s6 w' => ∃ (j : Nat), j + g = sy.length ∧ s6 = .int .i64 j ∧ Hid (∀ i, i < j → symB (sP sy i) (sQ sy i) (sW sy i) (sB sy i) = true) ∧ Below w3.heap.size w3 w')
      case atStart => exact ⟨0, by omega, rfl, fun i hi => absurd hi (Nat.not_lt_zero i), Below.refl _ _⟩
      case round =>
        obtain ⟨j, hj, rfl, hall2, hbel⟩ := hrel
        have bE := below_step bq hbel
        have g7 : wr.cell? ⟨w.heap.size, 6, none⟩ = some (.slice C sy.length f) := (Blk.below' kq.out hbel).cell 6
        by_cases hlt2 : (j : Int) < (sy.length : Int)
        · obtain ⟨g, rfl⟩ : ∃ g, gk = g + 1 := ⟨gk - 1, by omega⟩
          obtain ⟨b, o, rfl, hb, hcc⟩ := Smb.at (i := j) sq.out (by omega)
          obtain ⟨r0, r1, r2, r3⟩ := hcc j (by omega)
          have d0 := (hbel.cell (p := ⟨b, o + j * 4, none⟩) hb).trans r0
          have d1 := (hbel.cell (p := ⟨b, o + j * 4 + 1, none⟩) hb).trans r1
          have d2 := (hbel.cell (p := ⟨b, o + j * 4 + 2, none⟩) hb).trans r2
          have d3 := (hbel.cell (p := ⟨b, o + j * 4 + 3, none⟩) hb).trans r3
          clear hcc r0 r1 r2 r3
          by_cases hy0 : sP sy j < 1
          ·
              have E : Hid (cfgF sh wi ra ta nd ac sy = 1) := cfgF_6 HSZ.out HC.out HA.out HB.out HD.out (tabB_f (i := j) (by omega) (sym_f (by omega)))
              go_wp2_with fail
              go_ret
              exact madeX_mk E.out (bE.alloc bE.size _)
          by_cases hy1 : 1099511627776 < sP sy j
          ·
              have E : Hid (cfgF sh wi ra ta nd ac sy = 1) := cfgF_6 HSZ.out HC.out HA.out HB.out HD.out (tabB_f (i := j) (by omega) (sym_f (by omega)))
              go_wp2_with fail
              go_ret
              exact madeX_mk E.out (bE.alloc bE.size _)
          by_cases hy2 : sQ sy j < 1
          ·
              have E : Hid (cfgF sh wi ra ta nd ac sy = 1) := cfgF_6 HSZ.out HC.out HA.out HB.out HD.out (tabB_f (i := j) (by omega) (sym_f (by omega)))
              go_wp2_with fail
              go_ret
              exact madeX_mk E.out (bE.alloc bE.size _)
          by_cases hy3 : 1099511627776 < sQ sy j
          ·
              have E : Hid (cfgF sh wi ra ta nd ac sy = 1) := cfgF_6 HSZ.out HC.out HA.out HB.out HD.out (tabB_f (i := j) (by omega) (sym_f (by omega)))
              go_wp2_with fail
              go_ret
              exact madeX_mk E.out (bE.alloc bE.size _)
          by_cases hy4 : sW sy j < 0
          ·
              have E : Hid (cfgF sh wi ra ta nd ac sy = 1) := cfgF_6 HSZ.out HC.out HA.out HB.out HD.out (tabB_f (i := j) (by omega) (sym_f (by omega)))
              go_wp2_with fail
              go_ret
              exact madeX_mk E.out (bE.alloc bE.size _)
          cases hin : rightB (sB sy j)
          · have E : Hid (cfgF sh wi ra ta nd ac sy = 1) := cfgF_6 HSZ.out HC.out HA.out HB.out HD.out (tabB_f (i := j) (by omega) (sym_f (.inr (.inr (.inr (.inr (.inr hin)))))))
            go_wp2_with (go_at_call 43; refine (Bnd.rright_any _ _).mono ?_; rintro e w4 ⟨rfl, rfl⟩)
            go_ret
            exact madeX_mk E.out (bE.alloc bE.size _)
          · have hall' : Hid (∀ i, i < j + 1 → symB (sP sy i) (sQ sy i) (sW sy i) (sB sy i) = true) := fun i hi => by
              by_cases e : i = j
              · subst e; exact sym_t (by omega) hin
              · exact hall2.out i (by omega)
            go_wp2_with (go_at_call 43; refine (Bnd.rright_any _ _).mono ?_; rintro e w4 ⟨rfl, rfl⟩)
            go_roundg g
            case measure => omega
            case rel => exact ⟨j + 1, by omega, by go_num, hall', hbel.alloc hbel.size _⟩
        · have E : Hid (cfgF sh wi ra ta nd ac sy = 0) := cfgF_7 HSZ.out HC.out HA.out HB.out HD.out (tabB_t fun i hi => hall2.out i (by omega))
          go_wp2_with fail
          go_ret
          exact madeX_mk E.out bE
end Rul2
end Go.Proofs.YtaeddnjjeholgaaGreat
