/- Texts side by side. -/
import Derived.WalkLawsBesides
import Derived.Laws.Externs
import Derived.ChangeSlices
import Derived.Lib.SmallJoins
import Derived.Test.YtfbajlcljfjbkaaGreatUnial
set_option linter.unusedVariables false
set_option linter.unusedSimpArgs false
set_option maxRecDepth 100000
set_option maxHeartbeats 16000000
namespace Go.Proofs.YtfbajlcljfjbkaaGreat
open Kap Go.ChangeShapes Go.WideShapes Go.RowKit
namespace Bnd
open Go.ChangeAt Flo
variable {p:Int} {R S b:Nat}
theorem run18(n:Int)(w:Go.World):(callFunc 22 #[.int .u64 n]).run Tryz.prog w= .ok (.value (.float .f64 n.toNat)) w:=
 run_callFunc_extern Tryz.func22 (by kernel_rfl) (by kernel_rfl) (by kernel_rfl) (e:=Extern.MathFloatBits.float64frombits) (by kernel_rfl) _ w
theorem right_any(b:Nat)(w:Go.World):
  Calls Tryz.prog 100 #[.float .f64 b] w fun e w'=>e= .returned (.bool (rightB b))∧w=w':=by
 go_enter Tryz.func100,Tryz.ntmps100
 go_wp2
 go_ret;exact⟨rfl,rfl⟩
theorem rright_any(b:Nat)(w:Go.World):
  Calls Tryz.prog 21 #[.float .f64 b] w fun e w'=>e= .returned (.bool (rightB b))∧w=w':=by
 go_enter Tryz.func21,Tryz.ntmps21
 go_wp2
 go_ret;exact⟨rfl,rfl⟩
theorem reach_hi(p:Int)(b r:Nat)(w:Go.World)(h:floatBits .mul .f64 (floatOfInt .f64 p) b=some r)(hg:(FloatKind.f64.format.order r 4787326403894837248==some .gt)=true):
  Calls Tryz.prog 133 #[.int .i64 p,.float .f64 b] w fun e w'=>e= .returned (.int .i64 1099511627776)∧w=w':=by
 have hop: ∀t w,(binOp .mul t (.float .f64 (floatOfInt .f64 p)) (.float .f64 b)).run Tryz.prog w= .ok (.float .f64 r) w:=fun t w=>run_float_arith w .mul t .f64 _ b r h
 clear h
 go_enter Tryz.func133,Tryz.ntmps133
 go_wp2_with (simp only[hop])
 go_ret;exact⟨rfl,rfl⟩
theorem reach_lo(p:Int)(b r:Nat)(n:Int)(w:Go.World)(h:floatBits .mul .f64 (floatOfInt .f64 p) b=some r)(hg:(FloatKind.f64.format.order r 4787326403894837248==some .gt)=false)
  (hn:floatToIntVal .f64 r .i64=some n):
  Calls Tryz.prog 133 #[.int .i64 p,.float .f64 b] w fun e w'=>e= .returned (.int .i64 n)∧w=w':=by
 have hop: ∀t w,(binOp .mul t (.float .f64 (floatOfInt .f64 p)) (.float .f64 b)).run Tryz.prog w= .ok (.float .f64 r) w:=fun t w=>run_float_arith w .mul t .f64 _ b r h
 have hc:=fun w=>run_convert_float_int w 85 2 .f64 .i64 r n (by rw[Tryz.underlying85];rfl) Tryz.underlying2 hn
 clear h hn
 go_enter Tryz.func133,Tryz.ntmps133
 go_wp2_with (first|simp only[hop]|simp only[hc])
 go_ret;exact⟨rfl,rfl⟩
theorem far_hi(p:Int)(b r:Nat)(w:Go.World)(h:floatBits .mul .f64 (floatOfInt .f64 p) b=some r)(hg:(FloatKind.f64.format.order r 4787326403894837248==some .gt||FloatKind.f64.format.order r 4787326403894837248==some .eq)=true):
  Calls Tryz.prog 136 #[.int .i64 p,.float .f64 b] w fun e w'=>e= .returned (.int .i64 1099511627776)∧w=w':=by
 have hop: ∀t w,(binOp .mul t (.float .f64 (floatOfInt .f64 p)) (.float .f64 b)).run Tryz.prog w= .ok (.float .f64 r) w:=fun t w=>run_float_arith w .mul t .f64 _ b r h
 clear h;generalize hq:(FloatKind.f64.format.order r 4787326403894837248==some .gt||FloatKind.f64.format.order r 4787326403894837248==some .eq)=q at hg;subst hg
 go_enter Tryz.func136,Tryz.ntmps136
 go_wp2_with (simp only[hop])
 go_ret;exact⟨rfl,rfl⟩
theorem far_lo(p:Int)(b r:Nat)(n:Int)(w:Go.World)(h:floatBits .mul .f64 (floatOfInt .f64 p) b=some r)(hg:(FloatKind.f64.format.order r 4787326403894837248==some .gt)=false)(hg':(FloatKind.f64.format.order r 4787326403894837248==some .eq)=false)
  (hn:floatToIntVal .f64 r .i64=some n):
  Calls Tryz.prog 136 #[.int .i64 p,.float .f64 b] w fun e w'=>e= .returned (.int .i64 n)∧w=w':=by
 have hop: ∀t w,(binOp .mul t (.float .f64 (floatOfInt .f64 p)) (.float .f64 b)).run Tryz.prog w= .ok (.float .f64 r) w:=fun t w=>run_float_arith w .mul t .f64 _ b r h
 have hc:=fun w=>run_convert_float_int w 85 2 .f64 .i64 r n (by rw[Tryz.underlying85];rfl) Tryz.underlying2 hn
 clear h hn
 go_enter Tryz.func136,Tryz.ntmps136
 go_wp2_with (first|simp only[hop]|simp only[hc])
 go_ret;exact⟨rfl,rfl⟩
def distR(R:Nat):Int:=if R40<R then 1099511627776 else (D R:Int)
def dist(p:Int)(b:Nat):Int:=distR (PR (RP p.toNat) (rungOf b))
theorem distR_bd(R:Nat):0≤distR R∧distR R≤1099511627776:=by
 unfold distR;split
 ·omega
 ·have:=D_le (R:=R) (by omega);omega
theorem dist_bd(p:Int)(b:Nat):0≤dist p b∧dist p b≤1099511627776:=distR_bd _
theorem prod_word(p:Int)(b:Nat)(hp:1≤p)(hp':p≤1099511627776)(hb:Frac b):
  ∃t,floatBits .mul .f64 (floatOfInt .f64 p) b=some (Ieee.double.word t (PR (RP p.toNat) (rungOf b)))∧(t=true→PR (RP p.toNat) (rungOf b)=0):=by
 obtain⟨t,R,rfl,h1,h2⟩:=hb;rw[word_rung t R h1,ofInt_word p (by omega)];have hr:=RP_bd p.toNat (by omega) (by omega);exact⟨t,mul_word _ R t hr.1 hr.2 h1 h2,fun h=>by rw[h2 h,PR_zero]⟩
theorem ord40(t:Bool)(R:Nat)(hR:R≤INF)(ht:t=true→R=0):FloatKind.f64.format.order (Ieee.double.word t R) 4787326403894837248=some (compare R R40):=by
 have:=order_word t false R R40 hR (by unfold R40 INF;omega) ht (by simp);exact this
theorem reach_any(p:Int)(b:Nat)(w:Go.World)(hp:1≤p)(hp':p≤1099511627776)(hb:Frac b):
  Calls Tryz.prog 133 #[.int .i64 p,.float .f64 b] w fun e w'=>e= .returned (.int .i64 (dist p b))∧w=w':=by
 obtain⟨t,h1,h2⟩:=prod_word p b hp hp' hb;have hi:=PR_inf (RP p.toNat) (rungOf b);unfold dist;generalize PR (RP p.toNat) (rungOf b)=R at *;have ho:=ord40 t R hi h2;by_cases hg:R40<R
 ·have e:distR R=1099511627776:=by unfold distR;rw[if_pos hg]
  rw[e];exact reach_hi p b _ w h1 (by rw[ho,Nat.compare_eq_gt.2 hg];rfl)
 ·have e:distR R=D R:=by unfold distR;rw[if_neg hg]
  rw[e];refine reach_lo p b _ _ w h1 ?_ (toIntVal_word t R (by omega) h2);rw[ho];by_cases he:R=R40
  ·rw[he,Nat.compare_eq_eq.2 rfl];rfl
  ·rw[Nat.compare_eq_lt.2 (by omega)];rfl
theorem far_any(p:Int)(b:Nat)(w:Go.World)(hp:1≤p)(hp':p≤1099511627776)(hb:Frac b):
  Calls Tryz.prog 136 #[.int .i64 p,.float .f64 b] w fun e w'=>e= .returned (.int .i64 (dist p b))∧w=w':=by
 obtain⟨t,h1,h2⟩:=prod_word p b hp hp' hb;have hi:=PR_inf (RP p.toNat) (rungOf b);unfold dist;generalize PR (RP p.toNat) (rungOf b)=R at *;have ho:=ord40 t R hi h2;by_cases hg:R40<R
 ·have e:distR R=1099511627776:=by unfold distR;rw[if_pos hg]
  rw[e];exact far_hi p b _ w h1 (by rw[ho,Nat.compare_eq_gt.2 hg];rfl)
 ·by_cases he:R=R40
  ·have e:distR R=1099511627776:=by unfold distR;rw[if_neg hg,he,D_40];rfl
   rw[e];exact far_hi p b _ w h1 (by rw[ho,Nat.compare_eq_eq.2 he];rfl)
  ·have e:distR R=D R:=by unfold distR;rw[if_neg hg]
   rw[e];exact far_lo p b _ _ w h1 (by rw[ho,Nat.compare_eq_lt.2 (by omega)];rfl) (by rw[ho,Nat.compare_eq_lt.2 (by omega)];rfl) (toIntVal_word t R (by omega) h2)
def colB(p:Int)(b:Nat):Bool:=rightB b&&decide (1≤p)&&decide (p≤1099511627776)
def colLo(p:Int)(b:Nat):Int:=if colB p b then max (p-dist p b) 1 else 0
def colHi(p:Int)(b:Nat):Int:=if colB p b then min (p+dist p b) 1099511627776 else 0
def ToldC(p:Int)(b:Nat)(w:Go.World)(e:Ending)(w':Go.World):Prop:=e= .returned (.tuple #[.int .i64 (colLo p b),.int .i64 (colHi p b),.bool (colB p b)])∧w=w'
theorem colB_t(hr:rightB b=true)(hp:1≤p)(hp':p≤1099511627776):colB p b=true:=by unfold colB;simp[hr,hp,hp']
theorem colB_f(h:rightB b=false∨p<1∨1099511627776<p):colB p b=false:=by
 unfold colB;rcases h with h|h|h
 ·simp[h]
 ·have: ¬1≤p:=by omega
  simp[this]
 ·have: ¬p≤1099511627776:=by omega
  simp[this]
theorem toldC_mk{lo hi:Int}{w:Go.World}(hc:colB p b=true)(h1:lo=max (p-dist p b) 1)(h2:hi=min (p+dist p b) 1099511627776):
  ToldC p b w (.returned (.tuple #[.int .i64 lo,.int .i64 hi,.bool true])) w:=by
 refine⟨?_,rfl⟩;unfold colLo colHi;rw[hc,h1,h2];rfl
theorem toldC_no{w:Go.World}(hc:colB p b=false):
  ToldC p b w (.returned (.tuple #[.int .i64 0,.int .i64 0,.bool false])) w:=by
 refine⟨?_,rfl⟩;unfold colLo colHi;rw[hc];rfl
theorem col_any(p:Int)(b:Nat)(w:Go.World)(hb:b<18446744073709551616):
  Calls Tryz.prog 123 #[.int .i64 p,.float .f64 b] w (ToldC p b w):=by
 by_cases hr:rightB b=true
 ·have hf:=(right_iff hb).1 hr;have hd1:=(dist_bd p b).1;have hd2:=(dist_bd p b).2;by_cases hp:p<1
  ·have hc:=κ (colB_f (p:=p) (b:=b) (Or.inr (Or.inl hp)))
   go_enter Tryz.func123,Tryz.ntmps123
   go_wp2_with (first|(go_at_call 100;refine(right_any _ _).mono ?_;rintro e w' ⟨rfl,rfl⟩))
   go_ret3;exact toldC_no hc.out
  ·by_cases hp':1099511627776<p
   ·have hc:=κ (colB_f (p:=p) (b:=b) (Or.inr (Or.inr hp')))
    go_enter Tryz.func123,Tryz.ntmps123
    go_wp2_with (first|(go_at_call 100;refine(right_any _ _).mono ?_;rintro e w' ⟨rfl,rfl⟩))
    go_ret3;exact toldC_no hc.out
   ·have hc:=κ (colB_t hr (p:=p) (by omega) (by omega))
    go_enter Tryz.func123,Tryz.ntmps123
    go_wp2_with (first|(go_at_call 100;refine(right_any _ _).mono ?_;rintro e w' ⟨rfl,rfl⟩)|(go_at_call 133;refine(reach_any p b _ (by omega) (by omega) hf).mono ?_;rintro e w' ⟨rfl,rfl⟩))
    all_goals (go_ret3;exact toldC_mk hc.out (by omega) (by omega))
 ·have hr:rightB b=false:=by simpa using hr
  have hc:=κ (colB_f (p:=p) (Or.inl hr))
  go_enter Tryz.func123,Tryz.ntmps123
  go_wp2_with (first|(go_at_call 100;refine(right_any _ _).mono ?_;rintro e w' ⟨rfl,rfl⟩))
  go_ret3;exact toldC_no hc.out
theorem rcol_any(p:Int)(b:Nat)(w:Go.World)(hb:b<18446744073709551616):
  Calls Tryz.prog 131 #[.int .i64 p,.float .f64 b] w (ToldC p b w):=by
 by_cases hr:rightB b=true
 ·have hf:=(right_iff hb).1 hr;have hd1:=(dist_bd p b).1;have hd2:=(dist_bd p b).2;by_cases hp:p<1
  ·have hc:=κ (colB_f (p:=p) (b:=b) (Or.inr (Or.inl hp)))
   go_enter Tryz.func131,Tryz.ntmps131
   go_wp2_with (first|(go_at_call 21;refine(rright_any _ _).mono ?_;rintro e w' ⟨rfl,rfl⟩))
   go_ret3;exact toldC_no hc.out
  ·by_cases hp':1099511627776<p
   ·have hc:=κ (colB_f (p:=p) (b:=b) (Or.inr (Or.inr hp')))
    go_enter Tryz.func131,Tryz.ntmps131
    go_wp2_with (first|(go_at_call 21;refine(rright_any _ _).mono ?_;rintro e w' ⟨rfl,rfl⟩))
    go_ret3;exact toldC_no hc.out
   ·have hc:=κ (colB_t hr (p:=p) (by omega) (by omega))
    go_enter Tryz.func131,Tryz.ntmps131
    go_wp2_with (first|(go_at_call 21;refine(rright_any _ _).mono ?_;rintro e w' ⟨rfl,rfl⟩)|(go_at_call 136;refine(far_any p b _ (by omega) (by omega) hf).mono ?_;rintro e w' ⟨rfl,rfl⟩))
    all_goals (go_ret3;exact toldC_mk hc.out (by omega) (by omega))
 ·have hr:rightB b=false:=by simpa using hr
  have hc:=κ (colB_f (p:=p) (Or.inl hr))
  go_enter Tryz.func131,Tryz.ntmps131
  go_wp2_with (first|(go_at_call 21;refine(rright_any _ _).mono ?_;rintro e w' ⟨rfl,rfl⟩))
  go_ret3;exact toldC_no hc.out
def witB(p x:Int)(b:Nat):Bool:=colB p b&&decide (colLo p b≤x)&&decide (x≤colHi p b)
theorem ret_bool{a b:Bool}(h:a=b):Ending.returned (.bool a)= .returned (.bool b):=by rw[h]
theorem wit_any(p x:Int)(b:Nat)(w:Go.World)(hb:b<18446744073709551616):
  Calls Tryz.prog 105 #[.int .i64 p,.int .i64 x,.float .f64 b] w fun e w'=>e= .returned (.bool (witB p x b))∧w=w':=by
 cases hc:colB p b with
 |false=>
  have hw:witB p x b=false:=by unfold witB;simp[hc]
  rw[hw];clear hw
  go_enter Tryz.func105,Tryz.ntmps105
  go_wp2_with (first|(go_at_call 123;refine(col_any _ _ _ hb).mono ?_;rintro e w' ⟨rfl,rfl⟩))
  go_ret;exact⟨rfl,rfl⟩
 |true=>
  have hw:witB p x b=(decide (colLo p b≤x)&&decide (x≤colHi p b)):=by unfold witB;simp[hc]
  rw[hw];clear hw;by_cases h1:colLo p b≤x
  ·by_cases h2:x≤colHi p b
   ·have e:(decide (colLo p b≤x)&&decide (x≤colHi p b))=true:=by simp[h1,h2]
    rw[e];clear e
    go_enter Tryz.func105,Tryz.ntmps105
    go_wp2_with (first|(go_at_call 123;refine(col_any _ _ _ hb).mono ?_;rintro e w' ⟨rfl,rfl⟩))
    go_ret;exact⟨rfl,rfl⟩
   ·have e:(decide (colLo p b≤x)&&decide (x≤colHi p b))=false:=by simp[h2]
    rw[e];clear e
    go_enter Tryz.func105,Tryz.ntmps105
    go_wp2_with (first|(go_at_call 123;refine(col_any _ _ _ hb).mono ?_;rintro e w' ⟨rfl,rfl⟩))
    go_ret;exact⟨ret_bool (by simp[h2]),rfl⟩
  ·have e:(decide (colLo p b≤x)&&decide (x≤colHi p b))=false:=by simp[h1]
   rw[e];clear e
   go_enter Tryz.func105,Tryz.ntmps105
   go_wp2_with (first|(go_at_call 123;refine(col_any _ _ _ hb).mono ?_;rintro e w' ⟨rfl,rfl⟩))
   go_ret;exact⟨rfl,rfl⟩
theorem rwit_any(p x:Int)(b:Nat)(w:Go.World)(hb:b<18446744073709551616):
  Calls Tryz.prog 118 #[.int .i64 p,.int .i64 x,.float .f64 b] w fun e w'=>e= .returned (.bool (witB p x b))∧w=w':=by
 cases hc:colB p b with
 |false=>
  have hw:witB p x b=false:=by unfold witB;simp[hc]
  rw[hw];clear hw
  go_enter Tryz.func118,Tryz.ntmps118
  go_wp2_with (first|(go_at_call 131;refine(rcol_any _ _ _ hb).mono ?_;rintro e w' ⟨rfl,rfl⟩))
  go_ret;exact⟨rfl,rfl⟩
 |true=>
  have hw:witB p x b=(decide (colLo p b≤x)&&decide (x≤colHi p b)):=by unfold witB;simp[hc]
  rw[hw];clear hw;by_cases h1:colLo p b≤x
  ·by_cases h2:x≤colHi p b
   ·have e:(decide (colLo p b≤x)&&decide (x≤colHi p b))=true:=by simp[h1,h2]
    rw[e];clear e
    go_enter Tryz.func118,Tryz.ntmps118
    go_wp2_with (first|(go_at_call 131;refine(rcol_any _ _ _ hb).mono ?_;rintro e w' ⟨rfl,rfl⟩))
    go_ret;exact⟨rfl,rfl⟩
   ·have e:(decide (colLo p b≤x)&&decide (x≤colHi p b))=false:=by simp[h2]
    rw[e];clear e
    go_enter Tryz.func118,Tryz.ntmps118
    go_wp2_with (first|(go_at_call 131;refine(rcol_any _ _ _ hb).mono ?_;rintro e w' ⟨rfl,rfl⟩))
    go_ret;exact⟨ret_bool (by simp[h2]),rfl⟩
  ·have e:(decide (colLo p b≤x)&&decide (x≤colHi p b))=false:=by simp[h1]
   rw[e];clear e
   go_enter Tryz.func118,Tryz.ntmps118
   go_wp2_with (first|(go_at_call 131;refine(rcol_any _ _ _ hb).mono ?_;rintro e w' ⟨rfl,rfl⟩))
   go_ret;exact⟨rfl,rfl⟩
end Bnd
namespace Opn
open Mem
variable {held:Bool} {base fuel:Nat} {e t:TypeId} {v:Value}
section
variable {H:Type} {enc:TypeId×Value→H} {P:Program} {w:World}
theorem open_i64c{x:DataW H×List MemPlace}(ht:P.underlying t=some (.slice e))(he:P.underlying e=some (.int .i64))(hc:P.cellsOf e=1)
  (h:DataW.trod enc P w base (fun _=>true) held fuel t [v]=some x): ∃A c u,v= .slice A u.length c∧u.length≤c∧c≤maxLen∧Ris w w.heap.size A u∧WfI u:=by
 rcases open_ints ht he hc h with⟨h1,_⟩|⟨a,len,cap,zs,h1,_,hl,hm,hz,_,hcell,hwf⟩
 ·injection h1 with h1
  exact⟨none,0,[],h1,by simp,by unfold maxLen;omega,.inl rfl,fun i hi=>by simp at hi⟩
 ·injection h1 with h1
  simp only[if_true]at hz;have hlen:(zs.take len).length=len:=by rw[List.length_take];omega
  have hget: ∀i,i<len→gI (zs.take len) i=zs.getD i 0:=fun i hi=>by simp[gI,hi]
  refine⟨some a,cap,zs.take len,by rw[hlen];exact h1,by rw[hlen];exact hl,hm,?_,?_⟩
  ·by_cases h0:len=0
   ·subst h0;exact .inl (by simp[ints])
   ·obtain⟨ab,ao,asp⟩:=a;have h00:=hcell 0 (by omega);have hs:=spot_none h00;subst hs;refine .inr ⟨ab,ao,rfl,?_,?_⟩
    ·have:=blk_lt h00;simpa[Addr.add] using this
    ·intro i v hv
     have hil:i<len:=by
      have:=(List.getElem?_eq_some_iff.1 hv).1;rwa[ints_len,hlen]at this
     have hci:=hcell i (by omega);rw[add_lit']at hci;rw[hci]
     have:(ints (zs.take len))[i]? =some (ι (zs.getD i 0)):=by
      have hz':i<zs.length:=by omega
      simp[ints,hil,hz']
     rw[this]at hv;exact hv
  ·intro i hi;rw[hlen]at hi;rw[hget i hi];have hz':i<zs.length:=by omega
   have:=hwf zs[i] (List.getElem_mem hz');have e:zs.getD i 0=zs[i]:=by simp[hz']
   rw[e];exact wf_in this
theorem open_nodesc{f0 f1:Field}{x:DataW H×List MemPlace}(ht:P.underlying t=some (.slice e))(he:P.underlying e=some (.struct #[f0,f1]))(ce:P.cellsOf e=2)(o0:f0.offset=0)(o1:f1.offset=1)
  (c0:P.cellsOf f0.type=1)(c1:P.cellsOf f1.type=1)(u0:P.underlying f0.type=some (.int .i64))(u1:P.underlying f1.type=some (.int .i64))
  (h:DataW.trod enc P w base (fun _=>true) held fuel t [v]=some x):
  ∃A c l,v= .slice A l.length c∧l.length≤c∧c≤maxLen∧Nds w w.heap.size A l∧WfN l:=by
 have hv: ∃A n c,v= .slice A n c:=by
  rcases Go.Deep.open_slice_pairs ht he ce o0 o1 c0 c1 h with⟨hc,_⟩|⟨a,len',cap',m,n,V0,V1,D0,D1,P0,P1,hc,_⟩
  ·injection hc with hc;exact⟨_,_,_,hc⟩
  ·injection hc with hc;exact⟨_,_,_,hc⟩
 obtain⟨A,len,cap,rfl⟩:=hv;rcases Go.Deep.open_slice_pairs ht he ce o0 o1 c0 c1 h with⟨hc,_⟩|⟨a,len',cap',m,n,V0,V1,D0,D1,P0,P1,hc,hb,hl,hm,hmm,hx,hi⟩
 ·simp at hc;obtain⟨rfl,rfl,rfl⟩:=hc;exact⟨none,0,[],rfl,by simp,by unfold maxLen;omega,.inl rfl,fun i hi=>by simp at hi⟩
 ·simp at hc;obtain⟨rfl,rfl,rfl⟩:=hc;have hm2:m=cap:=by rw[hmm];simp
  subst hm2
  have key: ∀i,i<m→ ∃x y:Int,V0 i= ι x∧V1 i= ι y∧inI x∧inI y:=by
   intro i him;obtain⟨h0,h1,h2,h3⟩:=hi i him;obtain⟨x,hx,_,wx⟩:=DataW.trod_int u0 h2;obtain⟨y,hy,_,wy⟩:=DataW.trod_int u1 h3;simp at hx hy;exact⟨x,y,hx,hy,wf_in wx,wf_in wy⟩
  obtain⟨fx,hfx⟩:=Go.Deep.choose_lt (n:=m) (p:=fun i (q:Int×Int)=>V0 i= .int .i64 q.1∧V1 i= .int .i64 q.2∧inI q.1∧inI q.2)
   (fun i him=>by obtain⟨x,y,k⟩:=key i him;exact⟨(x,y),k⟩)
  have hlen:((List.range len).map fx).length=len:=by simp
  refine⟨some a,m,(List.range len).map fx,by rw[hlen],by rw[hlen];exact hl,hm,?_,?_⟩
  ·by_cases h0:len=0
   ·subst h0;exact .inl (by simp[nds])
   ·obtain⟨ab,ao,asp⟩:=a
    have hs:asp=none:=by
     have:=(hi 0 (by omega)).1;rw[Nat.zero_mul]at this;exact spot_none this
    subst hs;refine .inr ⟨ab,ao,rfl,?_,?_⟩
    ·have:=blk_lt (hi 0 (by omega)).1;simpa[Addr.add] using this
    ·intro i v hv
     have hil:i<len*2:=by
      have:=(List.getElem?_eq_some_iff.1 hv).1;rwa[nds_len,hlen]at this
     have hg:=nds_get ((List.range len).map fx) (i / 2) (by rw[hlen];omega);obtain⟨q0,q1,q2,q3⟩:=hi (i / 2) (by omega);obtain⟨r0,r1,_⟩:=hfx (i / 2) (by omega);have hP:nP ((List.range len).map fx) (i / 2)=(fx (i / 2)).1:=by simp[nP,show i / 2<len by omega]
     have hC:nC ((List.range len).map fx) (i / 2)=(fx (i / 2)).2:=by simp[nC,show i / 2<len by omega]
     rw[hP,hC]at hg;rw[r0]at q0;rw[r1]at q1;rw[add_lit']at q0 q1;by_cases hodd:i%2=0
     ·have e:i / 2*2=i:=by omega
      rw[e]at hg q0;rw[hg.1]at hv;injection hv with hv
      rw[q0,hv]
     ·have e:i / 2*2+1=i:=by omega
      rw[e]at hg;rw[e]at q1;rw[hg.2]at hv;injection hv with hv
      rw[q1,hv]
  ·intro i hil;rw[hlen]at hil;obtain⟨_,_,r2,r3⟩:=hfx i (by omega);have hP:nP ((List.range len).map fx) i=(fx i).1:=by simp[nP,hil]
   have hC:nC ((List.range len).map fx) i=(fx i).2:=by simp[nC,hil]
   rw[hP,hC];exact⟨r2,r3⟩
end
end Opn
end Go.Proofs.YtfbajlcljfjbkaaGreat
